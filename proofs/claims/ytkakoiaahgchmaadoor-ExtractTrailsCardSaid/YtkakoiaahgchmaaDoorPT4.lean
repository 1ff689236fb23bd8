/-
  Put together, as far as wanted: ExH ExI ExJ ExK ExM ExO ExP ExQ ExS ExT ExV ExW ExX ExY ExZ ExAA ExAB.
-/
import Derived.Test.YtkakoiaahgchmaaDoorPT3
namespace Go.Proofs.YtkakoiaahgchmaaDoor
set_option maxRecDepth 100000
open Go.ChangeShapes Go.WideShapes Go.ChangeAt Go.RowKit
set_option maxHeartbeats 4000000 in
theorem end_any (bx bt base : Nat) (a : Option Addr) (n c : Nat) (ts : List (List Int)) (w : World) (kt : Blk w bt #[.slice a n c] 31) (ho : OwnR w [bx, bt] base (.slice a n c) ts) (hbt : bt < base) (hl : ts.length ≤ 1000) :
    Calls Tryd.prog 64 #[.pointer (some ⟨bt, 0, none⟩)] w fun e w' => e = .returned (.slice a n c) ∧ OwnR w' [bx, bt] base (.slice a n c) ts.reverse ∧ FlowB.ButIn (Value.slice a n c).ownBlock.toList w w' := by
  have Hb := hid (Below.refl w.heap.size w)
  have HO := hid ho
  have cb : w.cell? ⟨bt, 0, none⟩ = some (.slice a n c) := by rw [kt.cell]; rfl
  have Kt := hid kt
  have hnb := HO.out.low hbt
  clear kt ho
  go_enter Tryd.func64, Tryd.ntmps64
  go_wp2_with fail
  refine (trail_rev [bx, bt] base a n c ts _ HO.out (by omega)).mono ?_
  rintro e w1 ⟨rfl, o1, b1⟩
  have HO1 := hid o1
  have HR1 := hid b1
  have k1 := b1.blk Kt.out hnb
  have cb1 : w1.cell? ⟨bt, 0, none⟩ = some (.slice a n c) := by rw [k1.cell]; rfl
  clear o1 b1 k1 cb
  go_wp2_with fail
  go_returns
  exact ⟨rfl, HO1.out, HR1.out⟩
set_option maxHeartbeats 4000000 in
theorem climber_nil (x : List Int) (w : World) :
    Calls Tryd.prog 36 #[.agg (x.map (Value.int .u8)).toArray, .slice none 0 0] w fun e w' => e = .returned (.tuple #[.func (.func 63) #[] #[.pointer (some ⟨w.heap.size, 0, none⟩), .pointer (some ⟨w.heap.size + 1, 0, none⟩)], .func (.func 64) #[] #[.pointer (some ⟨w.heap.size + 1, 0, none⟩)]]) ∧ Blk w' w.heap.size (x.map (Value.int .u8)).toArray 23 ∧ Blk w' (w.heap.size + 1) #[.slice none 0 0] 31 ∧ w'.heap.size = w.heap.size + 1 + 1 ∧ Below w.heap.size w w' := by
  have b1 := (Below.refl w.heap.size w).alloc (Nat.le_refl _) (.cells (x.map (Value.int .u8)).toArray 23 (0, 0))
  have b2 := b1.alloc b1.size (.cells #[.slice none 0 0] 31 (0, 0))
  have Kx := hid ((Blk.new (w := w) (n := w.heap.size) rfl (x.map (Value.int .u8)).toArray 23).old (.cells #[.slice none 0 0] 31 (0, 0)))
  have Kt := hid (Blk.new (w := (w.alloc (.cells (x.map (Value.int .u8)).toArray 23 (0, 0)))) (n := w.heap.size + 1) (by simp only [World.size_alloc]) #[.slice none 0 0] 31)
  have Hb := hid b2
  have hbz := b2.size
  have Hbs := hid (show w.heap.size + 1 + 1 = ((w.alloc (.cells (x.map (Value.int .u8)).toArray 23 (0, 0))).alloc (.cells #[.slice none 0 0] 31 (0, 0))).heap.size by simp only [World.size_alloc])
  clear b1 b2 
  have ct : ((w.alloc (.cells (x.map (Value.int .u8)).toArray 23 (0, 0))).alloc (.cells #[.slice none 0 0] 31 (0, 0))).cell? ⟨w.heap.size + 1, 0, none⟩ = some (.slice none 0 0) := by rw [Kt.out.cell]; rfl
  go_enter Tryd.func36, Tryd.ntmps36
  go_wp2_with fail
  go_returns
  exact ⟨rfl, Kx.out, Kt.out, by simp only [World.size_alloc], Hb.out⟩
theorem wpList_append_t {ops : Array Oper} {rest : List Oper} {o : Oper} {A : Act} {w : World} {Q : Exit → Act → World → Prop} {S : List Nat} {base : Nat} {v : Value} {ts : List (List Int)} (hgd : o.guard = none) (s x : Operand) (ho : o.op = .call { callee := .builtin .append, args := #[s, x], argTypes := #[31, 31] }) (hs : A.eval s = v) (hown : OwnR w S base v ts)
    {b : Nat} {ta : Option Addr} {tl tc : Nat} {t : List Int} {T : TypeId} (hx : A.eval x = .slice (some ⟨b, 0, none⟩) 1 1) (hk : Blk w b #[.slice ta tl tc] T) (hT : TextAt w ta tl tc t) (hsep : 0 < tl → ∀ p : Addr, ta = some p → v.ownBlock ≠ some p.block ∧ p.block ∉ S) (hb : ts.length ≤ 1000000) (hbase : base ≤ w.heap.size)
    (h : ∀ v' w', OwnR w' S base v' (ts ++ [t]) → w.grownBy w' v.ownBlock → Below base w w' → wpList Tryd.prog ops Q rest (A.put o.dst v') w') (hty : o.type = 31 := by rfl) : wpList Tryd.prog ops Q (o :: rest) A w :=
  wpList_plain hgd fun K hK => by
    obtain ⟨v', w', hr, h2, h3, h4⟩ := run_append_t hown hk hT hsep hb hbase
    unfold Oper.wp execOp
    simp only [ho, hty, resolve, invoke, builtin, Sem.run_bind, Sem.run_pure, Result.andThen_ok, List.map_toArray, List.map_cons, List.map_nil, hs, hx, hr, Oper.upon_value]
    exact hK _ _ (h v' w' h2 h3 h4)
set_option maxHeartbeats 4000000 in
theorem climber_text (x : List Int) (tp : Addr) (tl tc : Nat) (t : List Int) (w : World) (hT : TextAt w (some tp) tl tc t) (htp : tp.block < w.heap.size) :
    Calls Tryd.prog 36 #[.agg (x.map (Value.int .u8)).toArray, .slice (some tp) tl tc] w fun e w' => ∃ a c, e = .returned (.tuple #[.func (.func 63) #[] #[.pointer (some ⟨w.heap.size, 0, none⟩), .pointer (some ⟨w.heap.size + 1, 0, none⟩)], .func (.func 64) #[] #[.pointer (some ⟨w.heap.size + 1, 0, none⟩)]]) ∧ Blk w' w.heap.size (x.map (Value.int .u8)).toArray 23 ∧ Blk w' (w.heap.size + 1) #[.slice a 1 c] 31 ∧ OwnR w' [w.heap.size, w.heap.size + 1] (w.heap.size + 1 + 1) (.slice a 1 c) [t] ∧ Below w.heap.size w w' := by
  have b1 := (Below.refl w.heap.size w).alloc (Nat.le_refl _) (.cells (x.map (Value.int .u8)).toArray 23 (0, 0))
  have b2 := b1.alloc b1.size (.cells #[.slice none 0 0] 31 (0, 0))
  have Kx := hid ((Blk.new (w := w) (n := w.heap.size) rfl (x.map (Value.int .u8)).toArray 23).old (.cells #[.slice none 0 0] 31 (0, 0)))
  have Kt := hid (Blk.new (w := (w.alloc (.cells (x.map (Value.int .u8)).toArray 23 (0, 0)))) (n := w.heap.size + 1) (by simp only [World.size_alloc]) #[.slice none 0 0] 31)
  have Hb := hid b2
  have hbz := b2.size
  have Hbs := hid (show w.heap.size + 1 + 1 = ((w.alloc (.cells (x.map (Value.int .u8)).toArray 23 (0, 0))).alloc (.cells #[.slice none 0 0] 31 (0, 0))).heap.size by simp only [World.size_alloc])
  clear b1 b2 
  have HT := hid (hT.below Hb.out)
  clear hT
  have ct : ((w.alloc (.cells (x.map (Value.int .u8)).toArray 23 (0, 0))).alloc (.cells #[.slice none 0 0] 31 (0, 0))).cell? ⟨w.heap.size + 1, 0, none⟩ = some (.slice none 0 0) := by rw [Kt.out.cell]; rfl
  go_enter Tryd.func36, Tryd.ntmps36
  have HO1 := hid ((OwnR.nil ((w.alloc (.cells (x.map (Value.int .u8)).toArray 23 (0, 0))).alloc (.cells #[.slice none 0 0] 31 (0, 0))) [w.heap.size, w.heap.size + 1] (w.heap.size + 1 + 1)).below ((Below.refl _ _).alloc (Nat.le_refl _) (.cells #[.slice (some tp) tl tc] 29 (0, 0))))
  have HK1 := hid (Blk.new (w := ((w.alloc (.cells (x.map (Value.int .u8)).toArray 23 (0, 0))).alloc (.cells #[.slice none 0 0] 31 (0, 0)))) (n := w.heap.size + 1 + 1) (by simp only [World.size_alloc]) #[.slice (some tp) tl tc] 29)
  have HT1 := hid (HT.out.below ((Below.refl _ _).alloc (Nat.le_refl _) (.cells #[.slice (some tp) tl tc] 29 (0, 0))))
  have Kx1 := hid (Kx.out.old (.cells #[.slice (some tp) tl tc] 29 (0, 0)))
  have Kt1 := hid (Kt.out.old (.cells #[.slice (some tp) tl tc] 29 (0, 0)))
  have Hb1 := hid (Hb.out.alloc Hb.out.size (.cells #[.slice (some tp) tl tc] 29 (0, 0)))
  go_wp2_with (first
     | (
      at_builtin
      refine wpList_append_t (v := .slice none 0 0) rfl _ _ rfl rfl HO1.out rfl HK1.out HT1.out (fun _ p hp => ⟨by simp [Value.ownBlock], by have := htp; cases hp; simp only [List.mem_cons, List.not_mem_nil, or_false]; omega⟩) (by simp) (by simp only [World.size_alloc]; omega) ?_
      intro v5 w5 own5 hg5 b5
      rw [List.nil_append] at own5
      have HO5 := hid own5
      have HB5 := hid (Hb1.out.trans (b5.mono (by omega)))
      have Kx5 := hid (Kx1.out.belowB (by omega) b5)
      have Kt5 := hid (Kt1.out.belowB (by omega) b5)
      obtain ⟨a5, c5, hv5, -⟩ := own5.texts
      rw [List.length_singleton] at hv5
      subst hv5
      have hs5 := b5.size
      clear own5 hg5 b5)
     | (
      refine wpList_store_cell rfl 31 _ _ rfl (w.heap.size + 1) 0 (.slice a5 1 c5) rfl rfl rfl rfl #[.slice none 0 0] 31 Kt5.out (by simp) size_rowt ?_
      intro w6 hb6 hk6
      have HB6 := hid (hb6.below HB5.out HB5.out.size (by omega))
      have Kx6 := hid (hb6.blk Kx5.out (by omega))
      have Kt6 := hid (show Blk w6 (w.heap.size + 1) #[.slice a5 1 c5] 31 from hk6)
      have HO6 := hid (HO5.out.keptBut hb6 (by simp) (by omega))
      have hs6 := hb6.size
      clear hb6 hk6))
  go_returns
  exact ⟨_, _, rfl, Kx6.out, Kt6.out, HO6.out, HB6.out⟩
end Go.Proofs.YtkakoiaahgchmaaDoor
namespace Go.Proofs.YtkakoiaahgchmaaDoor
set_option maxRecDepth 100000
open Go.ChangeShapes Go.WideShapes Go.ChangeAt Go.RowKit
abbrev StepT := List Int × Bool
/-- The digest at the top, and the texts of the nodes, from the lowest one on. -/
def topF (x : List Int) : List StepT → List Int
  | [] => x
  | (s, b) :: l => topF (if b then nodeL s x else nodeL x s) l
def trailF (x : List Int) : List StepT → List (List Int)
  | [] => []
  | (s, b) :: l => (if b then nodeX s x else nodeX x s) :: trailF (if b then nodeL s x else nodeL x s) l
theorem topF_snoc (x : List Int) (l : List StepT) (s : List Int) (b : Bool) : topF x (l ++ [(s, b)]) = if b then nodeL s (topF x l) else nodeL (topF x l) s := by
  induction l generalizing x with
  | nil => rfl
  | cons y l ih => exact ih _
theorem trailF_snoc (x : List Int) (l : List StepT) (s : List Int) (b : Bool) : trailF x (l ++ [(s, b)]) = trailF x l ++ [if b then nodeX s (topF x l) else nodeX (topF x l) s] := by
  induction l generalizing x with
  | nil => rfl
  | cons y l ih =>
    show _ :: trailF _ (l ++ [(s, b)]) = _
    rw [ih]
    rfl
theorem trailF_length (x : List Int) (l : List StepT) : (trailF x l).length = l.length := by
  induction l generalizing x with
  | nil => rfl
  | cons y l ih => show _ + 1 = _; rw [ih]; rfl
theorem Dg.topF {x : List Int} (hx : Dg x) (l : List StepT) : Dg (topF x l) := by
  induction l generalizing x with
  | nil => exact hx
  | cons y l ih =>
    refine ih ?_
    split
    · exact Dg.nodeL _ _
    · exact Dg.nodeL _ _
/-- Bools, in memory that was there. -/
structure BoolsAt (w : World) (a : Option Addr) (len cap : Nat) (bs : List Bool) : Prop where
  length : bs.length = len
  le : len ≤ cap
  mem : len = 0 ∨ ∃ g, a = some ⟨g, 0, none⟩ ∧ g < w.heap.size ∧ ∀ j, j < len → w.cell? ⟨g, j, none⟩ = some (.bool (bs.getD j false))
theorem BoolsAt.below {w w' : World} {a : Option Addr} {len cap : Nat} {bs : List Bool} (h : BoolsAt w a len cap bs) (hb : Below w.heap.size w w') : BoolsAt w' a len cap bs := by
  obtain ⟨h1, h2, h3 | ⟨g, rfl, hg, hc⟩⟩ := h
  · exact ⟨h1, h2, .inl h3⟩
  · exact ⟨h1, h2, .inr ⟨g, rfl, Nat.lt_of_lt_of_le hg hb.size, fun j hj => (hb.cell (p := ⟨g, j, none⟩) hg).trans (hc j hj)⟩⟩
theorem BoolsAt.of_own {w : World} {base : Nat} {e : TypeId} {v : Value} {bs : List Bool} (h : OwnV w base e v (bs.map Value.bool)) : ∃ a c, v = .slice a bs.length c ∧ BoolsAt w a bs.length c bs := by
  obtain ⟨a, c, rfl, ha, hn, hle, -, hc⟩ := h.slice
  rw [List.length_map] at hle hc ⊢
  refine ⟨a, c, rfl, rfl, hle, ?_⟩
  cases a with
  | none => exact .inl (by have := hn rfl; simpa using this)
  | some p =>
    obtain ⟨g, rfl, -⟩ := ha p rfl
    obtain ⟨hg, hj⟩ := hc g rfl
    refine .inr ⟨g, rfl, hg, fun j hjl => ?_⟩
    rw [hj j hjl, List.getElem?_map, List.getD_eq_getElem?_getD, List.getElem?_eq_getElem hjl]
    rfl
theorem zip_take {ds : List (List Int)} {bs : List Bool} (hl : ds.length = bs.length) {k : Nat} (hk : k < ds.length) : (ds.zip bs).take (k + 1) = (ds.zip bs).take k ++ [(ds.getD k [], bs.getD k false)] := by
  rw [List.take_succ_eq_append_getElem (by simp; omega)]
  simp [List.getD_eq_getElem?_getD, List.getElem?_eq_getElem hk, List.getElem?_eq_getElem (show k < bs.length by omega)]
theorem size_bool1 : (Tryd.prog.info? 4).map (·.size) = some 1 := by kernel_rfl
set_option maxHeartbeats 4000000 in
theorem climbed_nil (x : List Int) (ya : Option Addr) (yn yc : Nat) (ds : List (List Int)) (ga : Option Addr) (gc : Nat) (bs : List Bool) (w : World) (hx : Dg x) (hD : DigsAt w ya yn yc ds) (hG : BoolsAt w ga yn gc bs) (hyl : yn ≤ 300) (tab : ShaTab w) :
    Calls Tryd.prog 44 #[.agg (x.map (Value.int .u8)).toArray, .slice none 0 0, .slice ya yn yc, .slice ga yn gc] w fun e w' => ∃ v, e = .returned v ∧ ∃ Sx base, w.heap.size ≤ base ∧ OwnR w' Sx base v ([] ++ trailF x (ds.zip bs)).reverse ∧ Below w.heap.size w w' := by
  have b1 := (Below.refl w.heap.size w).alloc (Nat.le_refl _) (.cells (x.map (Value.int .u8)).toArray 23 (0, 0))
  have Kz := hid (Blk.new (w := w) (n := w.heap.size) rfl (x.map (Value.int .u8)).toArray 23)
  have Hb := hid b1
  have hbz := b1.size
  have Hbs := hid (show w.heap.size + 1 = (w.alloc (.cells (x.map (Value.int .u8)).toArray 23 (0, 0))).heap.size by simp only [World.size_alloc])
  have Htab := hid tab
  clear b1 tab 
  have HD := hid hD
  have HG := hid hG
  have HX := hid hx
  have hyn := hD.length
  have hgn := hG.length
  clear hD hG
  go_enter Tryd.func44, Tryd.ntmps44
  go_wp2_with (refine wpList_load_blk rfl 23 _ rfl (w.heap.size) rfl _ 23 Kz.out _ Tryd.underlying23 rfl 32 size_digest hx.size ?_)
  obtain ⟨bx, hbx⟩ : ∃ b, b = w.heap.size + 1 := ⟨_, rfl⟩
  obtain ⟨bt, hbt⟩ : ∃ b, b = w.heap.size + 1 + 1 := ⟨_, rfl⟩
  obtain ⟨base, hbase⟩ : ∃ b, b = w.heap.size + 1 + 1 + 1 := ⟨_, rfl⟩
  refine (climber_nil x _).mono ?_
  rintro e w1 ⟨rfl, kx, kt, hs1, b1⟩
  rw [(show (w.alloc (.cells (x.map (Value.int .u8)).toArray 23 (0, 0))).heap.size = w.heap.size + 1 from Hbs.out.symm)] at kx kt hs1
  rw [(show (w.alloc (.cells (x.map (Value.int .u8)).toArray 23 (0, 0))).heap.size = w.heap.size + 1 from Hbs.out.symm), ← hbt, ← hbx]
  rw [← hbx] at kx
  rw [← hbt] at kt
  have ho := OwnR.nil w1 [bx, bt] base
  have hb1 : base ≤ w1.heap.size := by omega
  have hlt1 : w.heap.size < bx := by omega
  have hlt2 : bx < bt := by omega
  have hlt3 : bt < base := by omega
  clear hbx hbt hbase
  have HB1 := hid (Below.on Hb.out b1)
  have Kx1 := hid kx
  have Kt1 := hid kt
  have HO1 := hid ho
  have hgl : tabLow w.heap.size := ⟨Htab.out.lt, Htab.out.lt0⟩
  clear kx kt ho b1
  go_wp2_with fail
  go_loopw [21] (fun iv wr => ∃ k : Nat, k ≤ yn ∧ iv = .int .i64 k ∧ Blk wr bx ((topF x ((ds.zip bs).take k)).map (Value.int .u8)).toArray 23 ∧ (∃ v, Blk wr bt #[v] 31 ∧ OwnR wr [bx, bt] base v ([] ++ trailF x ((ds.zip bs).take k))) ∧ base ≤ wr.heap.size ∧ Below w.heap.size w wr) (fun iv _ => yn - (intOf iv).toNat)
  case atStart => exact ⟨0, Nat.zero_le _, rfl, Kx1.out, ⟨_, Kt1.out, HO1.out⟩, hb1, HB1.out⟩
  case round =>
    obtain ⟨k, hk, rfl, kx, ⟨v, kt, ho⟩, hbw, bel⟩ := hrel
    have Kxwr := hid kx
    have Ktwr := hid kt
    have HOwr := hid ho
    have HBwr := hid bel
    have hswr := bel.size
    have hbxl := kx.lt
    have hbtl := kt.lt
    clear kx kt ho bel
    by_cases hcj : k < yn
    · skip
      have hcI : (k : Int) < (yn : Int) := by omega
      obtain ⟨y, yo, rfl, hy, hyc⟩ := HD.out.at_ (by omega)
      have hgm := HG.out.mem
      obtain ⟨g, rfl, hg, hgc⟩ : ∃ g, ga = some ⟨g, 0, none⟩ ∧ g < w.heap.size ∧ ∀ j, j < yn → w.cell? ⟨g, j, none⟩ = some (.bool (bs.getD j false)) := by
        rcases hgm with h | h
        · omega
        · exact h
      have HYR := hid (rangeAt_below (hyc k hcj) hy HBwr.out)
      have HGC := hid ((HBwr.out.cell (p := ⟨g, k, none⟩) hg).trans (hgc k hcj))
      have HS := hid (HD.out.get hcj)
      have HTX := hid (topF_snoc x ((ds.zip bs).take k) (ds.getD k []) (bs.getD k false))
      have HRX := hid (trailF_snoc x ((ds.zip bs).take k) (ds.getD k []) (bs.getD k false))
      have HZT := hid (zip_take (ds := ds) (bs := bs) (by omega) (show k < ds.length by omega))
      have htl : (trailF x ((ds.zip bs).take k)).length ≤ 300 := by rw [trailF_length, List.length_take]; omega
      have HXT := hid (Dg.topF HX.out ((ds.zip bs).take k))
      generalize hsk : ds.getD k [] = sk at *
      generalize hbk : bs.getD k false = bk at *
      generalize topF x ((ds.zip bs).take k) = xk at *
      generalize trailF x ((ds.zip bs).take k) = tk at *
      clear hyc hgc hgm hsk hbk
      go_wp2_with (first
         | (refine wpList_index_digs rfl 24 _ _ rfl Tryd.underlying24 size_digest y yo yn yc rfl _ _ rfl k rfl (by omega) ?_)
         | (refine wpList_load_mid rfl 23 _ rfl y (yo + k * 32) rfl _ _ HYR.out Tryd.underlying23 rfl (by rw [List.length_map, HS.out.len]; exact size_digest) ?_)
         | (
            refine wpList_store_blk rfl 23 _ _ rfl (wr.heap.size) (sk.map (Value.int .u8)).toArray rfl rfl _ 23 (Blk.new rfl (byteCells 32 []) _) 32 size_digest zsize HS.out.size (ints_one _ _) ?_
            intro w61 hbw61 hkw61
            have hw61 := hbw61.below ((Below.refl wr.heap.size wr).alloc (Nat.le_refl _) _) (by simp only [World.size_alloc]; omega) (Nat.le_refl _)
            have HBw61 := hid (Below.on HBwr.out hw61)
            have hsw61 := HBw61.out.size
            have Kxw61 := hid (Kxwr.out.below hw61)
            have hlxw61 := Kxwr.out.lt
            have Ksw61 := hid hkw61
            have hfw61 : w.heap.size ≤ wr.heap.size := HBwr.out.size
            have Ktw61 := hid (Ktwr.out.below hw61)
            have HOw61 := hid (HOwr.out.below hw61)
            have hbww61 : base ≤ w61.heap.size := Nat.le_trans hbw hw61.size
            have HGCw61 := hid ((hw61.cell (p := ⟨g, k, none⟩) (Nat.lt_of_lt_of_le hg hswr)).trans HGC.out)
            clear hbw61 hkw61 hw61))
      simp only [Act.put]
      have hlen : ([] ++ tk).length ≤ 1000 := by rw [List.length_append]; simp; omega
      have hgx : tabLow bx := ⟨by have := hgl.1; omega, by have := hgl.2; omega⟩
      have hgt : tabLow bt := ⟨by have := hgl.1; omega, by have := hgl.2; omega⟩
      have hgb : tabLow base := ⟨by have := hgl.1; omega, by have := hgl.2; omega⟩
      cases bk with
      | true =>
        have hfr := HOw61.out.size
        have hfm := HOw61.out.from
        refine FlowB.wp_region_butIn (bx :: bt :: v.ownBlock.toList) (fun wz => Blk wz bx (xk.map (Value.int .u8)).toArray 23 ∧ Blk wz bt #[v] 31 ∧ OwnR wz [bx, bt] base v ([] ++ tk)) 7 [0, 1, 2, 3, 4, 5] [] [(.c 6, [], [])] (by kernel_rfl) (by kernel_rfl) ⟨Kxw61.out, Ktw61.out, HOw61.out⟩ (fun _ _ h hb => ⟨h.1.below hb, h.2.1.below hb, h.2.2.below hb⟩) ?_
        apply Exists.intro
        refine ⟨fun w0 hb0 hF0 => ?_, ?_⟩
        · skip
          have hnS : ∀ n, n ≠ bx → n ≠ bt → (∀ g ∈ v.ownBlock.toList, n ≠ g) → n ∉ bx :: bt :: v.ownBlock.toList := fun n h1 h2 h3 hm => by
            rcases List.mem_cons.1 hm with h | hm
            · exact h1 h
            · rcases List.mem_cons.1 hm with h | hm
              · exact h2 h
              · exact h3 n hm rfl
          have x0 : ∀ w', (∃ x : Ext w0, w' = x.at_) → ∃ T, Blk w' wr.heap.size (sk.map (Value.int .u8)).toArray T := fun w' ⟨x, hx⟩ => ⟨_, hx ▸ (hb0.blk Ksw61.out (hnS _ (by omega) (by omega) (fun g hg => by have := HOwr.out.size g hg; omega))).below x.same⟩
          have y0 : ∀ w', (∃ x : Ext w0, w' = x.at_) → w'.cell? ⟨g, 0 + k * 1, none⟩ = some (.bool true) := fun w' ⟨x, hx⟩ => by
            rw [show 0 + k * 1 = k by omega, hx, x.same.cell (p := ⟨g, k, none⟩) (Nat.lt_of_lt_of_le (Nat.lt_of_lt_of_le hg HBw61.out.size) hb0.size)]
            rw [← HGCw61.out]
            unfold World.cell?
            rw [show w0.heap[g]? = w61.heap[g]? from hb0.block g (Nat.lt_of_lt_of_le hg HBw61.out.size) (hnS _ (by omega) (by omega) (fun q hq => by have := hfm q hq; omega))]
          simp only [pick, List.getElem?_toArray, List.getElem?_cons_succ, List.getElem?_cons_zero, Option.toList_some, List.cons_append, List.nil_append]
          repeat (first | (go_big_quiet_want; refine quiet_load_blk 23 _ rfl wr.heap.size rfl _ x0 _ Tryd.underlying23 rfl 32 size_digest HS.out.size ?_; go_big_quiet_on; simp only [Act.put, List.setIfInBounds_toArray, List.set_cons_zero, List.set_cons_succ]) | (go_big_quiet_want; refine quiet_index_s 1 76 _ _ rfl Tryd.underlying76 size_bool1 g 0 yn gc rfl _ _ rfl k rfl (by omega) ?_; go_big_quiet_on; simp only [Act.put, List.setIfInBounds_toArray, List.set_cons_zero, List.set_cons_succ]) | (go_big_quiet_want; refine quiet_load_one 4 _ rfl ⟨g, 0 + k * 1, none⟩ rfl _ y0 _ Tryd.underlying4 rfl ?_; go_big_quiet_on; simp only [Act.put, List.setIfInBounds_toArray, List.set_cons_zero, List.set_cons_succ]) | go_big_quiet_step (fail))
          exact wpQuiet_nil rfl
        refine FlowB.AlChk.nil ?_
        refine FlowB.Walk.call rfl 63 #[.agg (sk.map (Value.int .u8)).toArray, .bool true, .pointer (some ⟨bx, 0, none⟩), .pointer (some ⟨bt, 0, none⟩)] (fun _ _ => True) (fun _ wz => ∃ v', Blk wz bx ((nodeL sk xk).map (Value.int .u8)).toArray 23 ∧ Blk wz bt #[v'] 31 ∧ OwnR wz [bx, bt] base v' (([] ++ tk) ++ [(nodeX sk xk)])) (fun _ _ _ _ h _ => h) (fun _ _ _ ⟨v', h1, h2, h3⟩ hb => ⟨v', h1.below hb, h2.below hb, h3.below hb⟩) rfl (fun w1 hb1 hF1 hG1 => ⟨by go_simp, ?_⟩) ?_
        · refine (up_r xk sk bx bt base v ([] ++ tk) w1 HXT.out HS.out hG1.1 hG1.2.1 hG1.2.2 (by omega) (by omega) (by omega) (Nat.le_trans hbww61 hb1.size) hlen hgx hgt hgb (tab_butIn (Htab.out.below HBw61.out) hb1 (tab_all hgx hgt hgb hfm))).mono ?_
          rintro e w2 ⟨rfl, v', q1, q2, q3, q4⟩
          exact ⟨_, rfl, q4, trivial, v', q1, q2, q3⟩
        rintro vr w1 hb1 hF1 _
        apply Exists.intro
        refine ⟨fun w3 hb3 hF3 => wpQuiet_nil rfl, ?_⟩
        refine FlowB.AlChk.nil ?_
        refine FlowB.Walk.fin fun w6 h6 _ hG6 => ?_
        simp only [List.drop_succ_cons, List.drop_zero]
        obtain ⟨v', q1, q2, q3⟩ := hG6
        have HB6 := hid (h6.below HBw61.out HBw61.out.size (fun b hb => by
          rcases List.mem_cons.1 hb with h | hb
          · omega
          · rcases List.mem_cons.1 hb with h | hb
            · omega
            · have := hfm b hb; omega))
        have HQ1 := hid q1
        have HQ2 := hid q2
        have HQ3 := hid q3
        have hs6 := Nat.le_trans hbww61 h6.size
        clear h6 q1 q2 q3 hfr hfm
        go_wp2_with fail
        exact ⟨⟨k + 1, by omega, by first | rfl | simp, by rw [HZT.out, HTX.out]; exact HQ1.out, ⟨_, HQ2.out, by rw [HZT.out, HRX.out, ← List.append_assoc]; exact HQ3.out⟩, hs6, HB6.out⟩, by simp [intOf]; omega⟩
      | false =>
        have hfr := HOw61.out.size
        have hfm := HOw61.out.from
        refine FlowB.wp_region_butIn (bx :: bt :: v.ownBlock.toList) (fun wz => Blk wz bx (xk.map (Value.int .u8)).toArray 23 ∧ Blk wz bt #[v] 31 ∧ OwnR wz [bx, bt] base v ([] ++ tk)) 7 [0, 1, 2, 3, 4, 5] [] [(.c 6, [], [])] (by kernel_rfl) (by kernel_rfl) ⟨Kxw61.out, Ktw61.out, HOw61.out⟩ (fun _ _ h hb => ⟨h.1.below hb, h.2.1.below hb, h.2.2.below hb⟩) ?_
        apply Exists.intro
        refine ⟨fun w0 hb0 hF0 => ?_, ?_⟩
        · skip
          have hnS : ∀ n, n ≠ bx → n ≠ bt → (∀ g ∈ v.ownBlock.toList, n ≠ g) → n ∉ bx :: bt :: v.ownBlock.toList := fun n h1 h2 h3 hm => by
            rcases List.mem_cons.1 hm with h | hm
            · exact h1 h
            · rcases List.mem_cons.1 hm with h | hm
              · exact h2 h
              · exact h3 n hm rfl
          have x0 : ∀ w', (∃ x : Ext w0, w' = x.at_) → ∃ T, Blk w' wr.heap.size (sk.map (Value.int .u8)).toArray T := fun w' ⟨x, hx⟩ => ⟨_, hx ▸ (hb0.blk Ksw61.out (hnS _ (by omega) (by omega) (fun g hg => by have := HOwr.out.size g hg; omega))).below x.same⟩
          have y0 : ∀ w', (∃ x : Ext w0, w' = x.at_) → w'.cell? ⟨g, 0 + k * 1, none⟩ = some (.bool false) := fun w' ⟨x, hx⟩ => by
            rw [show 0 + k * 1 = k by omega, hx, x.same.cell (p := ⟨g, k, none⟩) (Nat.lt_of_lt_of_le (Nat.lt_of_lt_of_le hg HBw61.out.size) hb0.size)]
            rw [← HGCw61.out]
            unfold World.cell?
            rw [show w0.heap[g]? = w61.heap[g]? from hb0.block g (Nat.lt_of_lt_of_le hg HBw61.out.size) (hnS _ (by omega) (by omega) (fun q hq => by have := hfm q hq; omega))]
          simp only [pick, List.getElem?_toArray, List.getElem?_cons_succ, List.getElem?_cons_zero, Option.toList_some, List.cons_append, List.nil_append]
          repeat (first | (go_big_quiet_want; refine quiet_load_blk 23 _ rfl wr.heap.size rfl _ x0 _ Tryd.underlying23 rfl 32 size_digest HS.out.size ?_; go_big_quiet_on; simp only [Act.put, List.setIfInBounds_toArray, List.set_cons_zero, List.set_cons_succ]) | (go_big_quiet_want; refine quiet_index_s 1 76 _ _ rfl Tryd.underlying76 size_bool1 g 0 yn gc rfl _ _ rfl k rfl (by omega) ?_; go_big_quiet_on; simp only [Act.put, List.setIfInBounds_toArray, List.set_cons_zero, List.set_cons_succ]) | (go_big_quiet_want; refine quiet_load_one 4 _ rfl ⟨g, 0 + k * 1, none⟩ rfl _ y0 _ Tryd.underlying4 rfl ?_; go_big_quiet_on; simp only [Act.put, List.setIfInBounds_toArray, List.set_cons_zero, List.set_cons_succ]) | go_big_quiet_step (fail))
          exact wpQuiet_nil rfl
        refine FlowB.AlChk.nil ?_
        refine FlowB.Walk.call rfl 63 #[.agg (sk.map (Value.int .u8)).toArray, .bool false, .pointer (some ⟨bx, 0, none⟩), .pointer (some ⟨bt, 0, none⟩)] (fun _ _ => True) (fun _ wz => ∃ v', Blk wz bx ((nodeL xk sk).map (Value.int .u8)).toArray 23 ∧ Blk wz bt #[v'] 31 ∧ OwnR wz [bx, bt] base v' (([] ++ tk) ++ [(nodeX xk sk)])) (fun _ _ _ _ h _ => h) (fun _ _ _ ⟨v', h1, h2, h3⟩ hb => ⟨v', h1.below hb, h2.below hb, h3.below hb⟩) rfl (fun w1 hb1 hF1 hG1 => ⟨by go_simp, ?_⟩) ?_
        · refine (up_l xk sk bx bt base v ([] ++ tk) w1 HXT.out HS.out hG1.1 hG1.2.1 hG1.2.2 (by omega) (by omega) (by omega) (Nat.le_trans hbww61 hb1.size) hlen hgx hgt hgb (tab_butIn (Htab.out.below HBw61.out) hb1 (tab_all hgx hgt hgb hfm))).mono ?_
          rintro e w2 ⟨rfl, v', q1, q2, q3, q4⟩
          exact ⟨_, rfl, q4, trivial, v', q1, q2, q3⟩
        rintro vr w1 hb1 hF1 _
        apply Exists.intro
        refine ⟨fun w3 hb3 hF3 => wpQuiet_nil rfl, ?_⟩
        refine FlowB.AlChk.nil ?_
        refine FlowB.Walk.fin fun w6 h6 _ hG6 => ?_
        simp only [List.drop_succ_cons, List.drop_zero]
        obtain ⟨v', q1, q2, q3⟩ := hG6
        have HB6 := hid (h6.below HBw61.out HBw61.out.size (fun b hb => by
          rcases List.mem_cons.1 hb with h | hb
          · omega
          · rcases List.mem_cons.1 hb with h | hb
            · omega
            · have := hfm b hb; omega))
        have HQ1 := hid q1
        have HQ2 := hid q2
        have HQ3 := hid q3
        have hs6 := Nat.le_trans hbww61 h6.size
        clear h6 q1 q2 q3 hfr hfm
        go_wp2_with fail
        exact ⟨⟨k + 1, by omega, by first | rfl | simp, by rw [HZT.out, HTX.out]; exact HQ1.out, ⟨_, HQ2.out, by rw [HZT.out, HRX.out, ← List.append_assoc]; exact HQ3.out⟩, hs6, HB6.out⟩, by simp [intOf]; omega⟩
    · skip
      have hke : k = yn := by omega
      subst hke
      have hcI : ¬ (k : Int) < (k : Int) := by omega
      rw [show (ds.zip bs).take k = ds.zip bs from List.take_of_length_le (by simp; omega)] at HOwr
      have hll : ([] ++ trailF x (ds.zip bs)).length ≤ 1000 := by rw [List.length_append, trailF_length]; simp; omega
      generalize hTT : [] ++ trailF x (ds.zip bs) = TT at *
      have HTT := hid hTT
      clear hTT
      obtain ⟨a9, c9, hv9, -⟩ := HOwr.out.texts
      subst hv9
      obtain ⟨N9, hN9⟩ : ∃ N, N = TT.length := ⟨_, rfl⟩
      rw [← hN9] at HOwr Ktwr
      have HN9 := hid hN9
      have hl9 := HOwr.out.from
      clear hN9
      go_wp2_with fail
      refine (end_any bx bt base a9 N9 c9 TT _ Ktwr.out HOwr.out (by omega) hll).mono ?_
      rintro e w8 ⟨rfl, o8, r8⟩
      have HO8 := hid (r8.below HBwr.out hswr (fun b hb => by have := hl9 b hb; omega))
      have HP8 := hid o8
      clear o8 r8 hl9
      go_wp2_with fail
      go_returns
      exact ⟨.slice a9 N9 c9, rfl, [bx, bt], base, by omega, by have HR := HP8.out; rw [← HTT.out] at HR; simpa using HR, HO8.out⟩
set_option maxHeartbeats 4000000 in
theorem climbed_text (x : List Int) (ya : Option Addr) (yn yc : Nat) (ds : List (List Int)) (ga : Option Addr) (gc : Nat) (bs : List Bool) (tp : Addr) (tl tc : Nat) (lt : List Int) (w : World) (hx : Dg x) (hD : DigsAt w ya yn yc ds) (hG : BoolsAt w ga yn gc bs) (hyl : yn ≤ 300) (tab : ShaTab w) (hT : TextAt w (some tp) tl tc lt) (htp : tp.block < w.heap.size) :
    Calls Tryd.prog 44 #[.agg (x.map (Value.int .u8)).toArray, .slice (some tp) tl tc, .slice ya yn yc, .slice ga yn gc] w fun e w' => ∃ v, e = .returned v ∧ ∃ Sx base, w.heap.size ≤ base ∧ OwnR w' Sx base v ([lt] ++ trailF x (ds.zip bs)).reverse ∧ Below w.heap.size w w' := by
  have b1 := (Below.refl w.heap.size w).alloc (Nat.le_refl _) (.cells (x.map (Value.int .u8)).toArray 23 (0, 0))
  have Kz := hid (Blk.new (w := w) (n := w.heap.size) rfl (x.map (Value.int .u8)).toArray 23)
  have Hb := hid b1
  have hbz := b1.size
  have Hbs := hid (show w.heap.size + 1 = (w.alloc (.cells (x.map (Value.int .u8)).toArray 23 (0, 0))).heap.size by simp only [World.size_alloc])
  have Htab := hid tab
  clear b1 tab 
  have HD := hid hD
  have HG := hid hG
  have HX := hid hx
  have hyn := hD.length
  have hgn := hG.length
  clear hD hG
  have HT := hid hT
  clear hT
  go_enter Tryd.func44, Tryd.ntmps44
  go_wp2_with (refine wpList_load_blk rfl 23 _ rfl (w.heap.size) rfl _ 23 Kz.out _ Tryd.underlying23 rfl 32 size_digest hx.size ?_)
  obtain ⟨bx, hbx⟩ : ∃ b, b = w.heap.size + 1 := ⟨_, rfl⟩
  obtain ⟨bt, hbt⟩ : ∃ b, b = w.heap.size + 1 + 1 := ⟨_, rfl⟩
  obtain ⟨base, hbase⟩ : ∃ b, b = w.heap.size + 1 + 1 + 1 := ⟨_, rfl⟩
  refine (climber_text x tp tl tc lt _ (HT.out.below Hb.out) (by rw [(show (w.alloc (.cells (x.map (Value.int .u8)).toArray 23 (0, 0))).heap.size = w.heap.size + 1 from Hbs.out.symm)]; omega)).mono ?_
  rintro e w1 ⟨a1, c1, rfl, kx, kt, ho, b1⟩
  rw [(show (w.alloc (.cells (x.map (Value.int .u8)).toArray 23 (0, 0))).heap.size = w.heap.size + 1 from Hbs.out.symm)] at kx kt ho
  rw [(show (w.alloc (.cells (x.map (Value.int .u8)).toArray 23 (0, 0))).heap.size = w.heap.size + 1 from Hbs.out.symm), ← hbt, ← hbx]
  rw [← hbase, ← hbt, ← hbx] at ho
  rw [← hbx] at kx
  rw [← hbt] at kt
  have hb1 : base ≤ w1.heap.size := by have := kt.lt; omega
  have hlt1 : w.heap.size < bx := by omega
  have hlt2 : bx < bt := by omega
  have hlt3 : bt < base := by omega
  clear hbx hbt hbase
  have HB1 := hid (Below.on Hb.out b1)
  have Kx1 := hid kx
  have Kt1 := hid kt
  have HO1 := hid ho
  have hgl : tabLow w.heap.size := ⟨Htab.out.lt, Htab.out.lt0⟩
  clear kx kt ho b1
  go_wp2_with fail
  go_loopw [21] (fun iv wr => ∃ k : Nat, k ≤ yn ∧ iv = .int .i64 k ∧ Blk wr bx ((topF x ((ds.zip bs).take k)).map (Value.int .u8)).toArray 23 ∧ (∃ v, Blk wr bt #[v] 31 ∧ OwnR wr [bx, bt] base v ([lt] ++ trailF x ((ds.zip bs).take k))) ∧ base ≤ wr.heap.size ∧ Below w.heap.size w wr) (fun iv _ => yn - (intOf iv).toNat)
  case atStart => exact ⟨0, Nat.zero_le _, rfl, Kx1.out, ⟨_, Kt1.out, HO1.out⟩, hb1, HB1.out⟩
  case round =>
    obtain ⟨k, hk, rfl, kx, ⟨v, kt, ho⟩, hbw, bel⟩ := hrel
    have Kxwr := hid kx
    have Ktwr := hid kt
    have HOwr := hid ho
    have HBwr := hid bel
    have hswr := bel.size
    have hbxl := kx.lt
    have hbtl := kt.lt
    clear kx kt ho bel
    by_cases hcj : k < yn
    · skip
      have hcI : (k : Int) < (yn : Int) := by omega
      obtain ⟨y, yo, rfl, hy, hyc⟩ := HD.out.at_ (by omega)
      have hgm := HG.out.mem
      obtain ⟨g, rfl, hg, hgc⟩ : ∃ g, ga = some ⟨g, 0, none⟩ ∧ g < w.heap.size ∧ ∀ j, j < yn → w.cell? ⟨g, j, none⟩ = some (.bool (bs.getD j false)) := by
        rcases hgm with h | h
        · omega
        · exact h
      have HYR := hid (rangeAt_below (hyc k hcj) hy HBwr.out)
      have HGC := hid ((HBwr.out.cell (p := ⟨g, k, none⟩) hg).trans (hgc k hcj))
      have HS := hid (HD.out.get hcj)
      have HTX := hid (topF_snoc x ((ds.zip bs).take k) (ds.getD k []) (bs.getD k false))
      have HRX := hid (trailF_snoc x ((ds.zip bs).take k) (ds.getD k []) (bs.getD k false))
      have HZT := hid (zip_take (ds := ds) (bs := bs) (by omega) (show k < ds.length by omega))
      have htl : (trailF x ((ds.zip bs).take k)).length ≤ 300 := by rw [trailF_length, List.length_take]; omega
      have HXT := hid (Dg.topF HX.out ((ds.zip bs).take k))
      generalize hsk : ds.getD k [] = sk at *
      generalize hbk : bs.getD k false = bk at *
      generalize topF x ((ds.zip bs).take k) = xk at *
      generalize trailF x ((ds.zip bs).take k) = tk at *
      clear hyc hgc hgm hsk hbk
      go_wp2_with (first
         | (refine wpList_index_digs rfl 24 _ _ rfl Tryd.underlying24 size_digest y yo yn yc rfl _ _ rfl k rfl (by omega) ?_)
         | (refine wpList_load_mid rfl 23 _ rfl y (yo + k * 32) rfl _ _ HYR.out Tryd.underlying23 rfl (by rw [List.length_map, HS.out.len]; exact size_digest) ?_)
         | (
            refine wpList_store_blk rfl 23 _ _ rfl (wr.heap.size) (sk.map (Value.int .u8)).toArray rfl rfl _ 23 (Blk.new rfl (byteCells 32 []) _) 32 size_digest zsize HS.out.size (ints_one _ _) ?_
            intro w61 hbw61 hkw61
            have hw61 := hbw61.below ((Below.refl wr.heap.size wr).alloc (Nat.le_refl _) _) (by simp only [World.size_alloc]; omega) (Nat.le_refl _)
            have HBw61 := hid (Below.on HBwr.out hw61)
            have hsw61 := HBw61.out.size
            have Kxw61 := hid (Kxwr.out.below hw61)
            have hlxw61 := Kxwr.out.lt
            have Ksw61 := hid hkw61
            have hfw61 : w.heap.size ≤ wr.heap.size := HBwr.out.size
            have Ktw61 := hid (Ktwr.out.below hw61)
            have HOw61 := hid (HOwr.out.below hw61)
            have hbww61 : base ≤ w61.heap.size := Nat.le_trans hbw hw61.size
            have HGCw61 := hid ((hw61.cell (p := ⟨g, k, none⟩) (Nat.lt_of_lt_of_le hg hswr)).trans HGC.out)
            clear hbw61 hkw61 hw61))
      simp only [Act.put]
      have hlen : ([lt] ++ tk).length ≤ 1000 := by rw [List.length_append]; simp; omega
      have hgx : tabLow bx := ⟨by have := hgl.1; omega, by have := hgl.2; omega⟩
      have hgt : tabLow bt := ⟨by have := hgl.1; omega, by have := hgl.2; omega⟩
      have hgb : tabLow base := ⟨by have := hgl.1; omega, by have := hgl.2; omega⟩
      cases bk with
      | true =>
        have hfr := HOw61.out.size
        have hfm := HOw61.out.from
        refine FlowB.wp_region_butIn (bx :: bt :: v.ownBlock.toList) (fun wz => Blk wz bx (xk.map (Value.int .u8)).toArray 23 ∧ Blk wz bt #[v] 31 ∧ OwnR wz [bx, bt] base v ([lt] ++ tk)) 7 [0, 1, 2, 3, 4, 5] [] [(.c 6, [], [])] (by kernel_rfl) (by kernel_rfl) ⟨Kxw61.out, Ktw61.out, HOw61.out⟩ (fun _ _ h hb => ⟨h.1.below hb, h.2.1.below hb, h.2.2.below hb⟩) ?_
        apply Exists.intro
        refine ⟨fun w0 hb0 hF0 => ?_, ?_⟩
        · skip
          have hnS : ∀ n, n ≠ bx → n ≠ bt → (∀ g ∈ v.ownBlock.toList, n ≠ g) → n ∉ bx :: bt :: v.ownBlock.toList := fun n h1 h2 h3 hm => by
            rcases List.mem_cons.1 hm with h | hm
            · exact h1 h
            · rcases List.mem_cons.1 hm with h | hm
              · exact h2 h
              · exact h3 n hm rfl
          have x0 : ∀ w', (∃ x : Ext w0, w' = x.at_) → ∃ T, Blk w' wr.heap.size (sk.map (Value.int .u8)).toArray T := fun w' ⟨x, hx⟩ => ⟨_, hx ▸ (hb0.blk Ksw61.out (hnS _ (by omega) (by omega) (fun g hg => by have := HOwr.out.size g hg; omega))).below x.same⟩
          have y0 : ∀ w', (∃ x : Ext w0, w' = x.at_) → w'.cell? ⟨g, 0 + k * 1, none⟩ = some (.bool true) := fun w' ⟨x, hx⟩ => by
            rw [show 0 + k * 1 = k by omega, hx, x.same.cell (p := ⟨g, k, none⟩) (Nat.lt_of_lt_of_le (Nat.lt_of_lt_of_le hg HBw61.out.size) hb0.size)]
            rw [← HGCw61.out]
            unfold World.cell?
            rw [show w0.heap[g]? = w61.heap[g]? from hb0.block g (Nat.lt_of_lt_of_le hg HBw61.out.size) (hnS _ (by omega) (by omega) (fun q hq => by have := hfm q hq; omega))]
          simp only [pick, List.getElem?_toArray, List.getElem?_cons_succ, List.getElem?_cons_zero, Option.toList_some, List.cons_append, List.nil_append]
          repeat (first | (go_big_quiet_want; refine quiet_load_blk 23 _ rfl wr.heap.size rfl _ x0 _ Tryd.underlying23 rfl 32 size_digest HS.out.size ?_; go_big_quiet_on; simp only [Act.put, List.setIfInBounds_toArray, List.set_cons_zero, List.set_cons_succ]) | (go_big_quiet_want; refine quiet_index_s 1 76 _ _ rfl Tryd.underlying76 size_bool1 g 0 yn gc rfl _ _ rfl k rfl (by omega) ?_; go_big_quiet_on; simp only [Act.put, List.setIfInBounds_toArray, List.set_cons_zero, List.set_cons_succ]) | (go_big_quiet_want; refine quiet_load_one 4 _ rfl ⟨g, 0 + k * 1, none⟩ rfl _ y0 _ Tryd.underlying4 rfl ?_; go_big_quiet_on; simp only [Act.put, List.setIfInBounds_toArray, List.set_cons_zero, List.set_cons_succ]) | go_big_quiet_step (fail))
          exact wpQuiet_nil rfl
        refine FlowB.AlChk.nil ?_
        refine FlowB.Walk.call rfl 63 #[.agg (sk.map (Value.int .u8)).toArray, .bool true, .pointer (some ⟨bx, 0, none⟩), .pointer (some ⟨bt, 0, none⟩)] (fun _ _ => True) (fun _ wz => ∃ v', Blk wz bx ((nodeL sk xk).map (Value.int .u8)).toArray 23 ∧ Blk wz bt #[v'] 31 ∧ OwnR wz [bx, bt] base v' (([lt] ++ tk) ++ [(nodeX sk xk)])) (fun _ _ _ _ h _ => h) (fun _ _ _ ⟨v', h1, h2, h3⟩ hb => ⟨v', h1.below hb, h2.below hb, h3.below hb⟩) rfl (fun w1 hb1 hF1 hG1 => ⟨by go_simp, ?_⟩) ?_
        · refine (up_r xk sk bx bt base v ([lt] ++ tk) w1 HXT.out HS.out hG1.1 hG1.2.1 hG1.2.2 (by omega) (by omega) (by omega) (Nat.le_trans hbww61 hb1.size) hlen hgx hgt hgb (tab_butIn (Htab.out.below HBw61.out) hb1 (tab_all hgx hgt hgb hfm))).mono ?_
          rintro e w2 ⟨rfl, v', q1, q2, q3, q4⟩
          exact ⟨_, rfl, q4, trivial, v', q1, q2, q3⟩
        rintro vr w1 hb1 hF1 _
        apply Exists.intro
        refine ⟨fun w3 hb3 hF3 => wpQuiet_nil rfl, ?_⟩
        refine FlowB.AlChk.nil ?_
        refine FlowB.Walk.fin fun w6 h6 _ hG6 => ?_
        simp only [List.drop_succ_cons, List.drop_zero]
        obtain ⟨v', q1, q2, q3⟩ := hG6
        have HB6 := hid (h6.below HBw61.out HBw61.out.size (fun b hb => by
          rcases List.mem_cons.1 hb with h | hb
          · omega
          · rcases List.mem_cons.1 hb with h | hb
            · omega
            · have := hfm b hb; omega))
        have HQ1 := hid q1
        have HQ2 := hid q2
        have HQ3 := hid q3
        have hs6 := Nat.le_trans hbww61 h6.size
        clear h6 q1 q2 q3 hfr hfm
        go_wp2_with fail
        exact ⟨⟨k + 1, by omega, by first | rfl | simp, by rw [HZT.out, HTX.out]; exact HQ1.out, ⟨_, HQ2.out, by rw [HZT.out, HRX.out, ← List.append_assoc]; exact HQ3.out⟩, hs6, HB6.out⟩, by simp [intOf]; omega⟩
      | false =>
        have hfr := HOw61.out.size
        have hfm := HOw61.out.from
        refine FlowB.wp_region_butIn (bx :: bt :: v.ownBlock.toList) (fun wz => Blk wz bx (xk.map (Value.int .u8)).toArray 23 ∧ Blk wz bt #[v] 31 ∧ OwnR wz [bx, bt] base v ([lt] ++ tk)) 7 [0, 1, 2, 3, 4, 5] [] [(.c 6, [], [])] (by kernel_rfl) (by kernel_rfl) ⟨Kxw61.out, Ktw61.out, HOw61.out⟩ (fun _ _ h hb => ⟨h.1.below hb, h.2.1.below hb, h.2.2.below hb⟩) ?_
        apply Exists.intro
        refine ⟨fun w0 hb0 hF0 => ?_, ?_⟩
        · skip
          have hnS : ∀ n, n ≠ bx → n ≠ bt → (∀ g ∈ v.ownBlock.toList, n ≠ g) → n ∉ bx :: bt :: v.ownBlock.toList := fun n h1 h2 h3 hm => by
            rcases List.mem_cons.1 hm with h | hm
            · exact h1 h
            · rcases List.mem_cons.1 hm with h | hm
              · exact h2 h
              · exact h3 n hm rfl
          have x0 : ∀ w', (∃ x : Ext w0, w' = x.at_) → ∃ T, Blk w' wr.heap.size (sk.map (Value.int .u8)).toArray T := fun w' ⟨x, hx⟩ => ⟨_, hx ▸ (hb0.blk Ksw61.out (hnS _ (by omega) (by omega) (fun g hg => by have := HOwr.out.size g hg; omega))).below x.same⟩
          have y0 : ∀ w', (∃ x : Ext w0, w' = x.at_) → w'.cell? ⟨g, 0 + k * 1, none⟩ = some (.bool false) := fun w' ⟨x, hx⟩ => by
            rw [show 0 + k * 1 = k by omega, hx, x.same.cell (p := ⟨g, k, none⟩) (Nat.lt_of_lt_of_le (Nat.lt_of_lt_of_le hg HBw61.out.size) hb0.size)]
            rw [← HGCw61.out]
            unfold World.cell?
            rw [show w0.heap[g]? = w61.heap[g]? from hb0.block g (Nat.lt_of_lt_of_le hg HBw61.out.size) (hnS _ (by omega) (by omega) (fun q hq => by have := hfm q hq; omega))]
          simp only [pick, List.getElem?_toArray, List.getElem?_cons_succ, List.getElem?_cons_zero, Option.toList_some, List.cons_append, List.nil_append]
          repeat (first | (go_big_quiet_want; refine quiet_load_blk 23 _ rfl wr.heap.size rfl _ x0 _ Tryd.underlying23 rfl 32 size_digest HS.out.size ?_; go_big_quiet_on; simp only [Act.put, List.setIfInBounds_toArray, List.set_cons_zero, List.set_cons_succ]) | (go_big_quiet_want; refine quiet_index_s 1 76 _ _ rfl Tryd.underlying76 size_bool1 g 0 yn gc rfl _ _ rfl k rfl (by omega) ?_; go_big_quiet_on; simp only [Act.put, List.setIfInBounds_toArray, List.set_cons_zero, List.set_cons_succ]) | (go_big_quiet_want; refine quiet_load_one 4 _ rfl ⟨g, 0 + k * 1, none⟩ rfl _ y0 _ Tryd.underlying4 rfl ?_; go_big_quiet_on; simp only [Act.put, List.setIfInBounds_toArray, List.set_cons_zero, List.set_cons_succ]) | go_big_quiet_step (fail))
          exact wpQuiet_nil rfl
        refine FlowB.AlChk.nil ?_
        refine FlowB.Walk.call rfl 63 #[.agg (sk.map (Value.int .u8)).toArray, .bool false, .pointer (some ⟨bx, 0, none⟩), .pointer (some ⟨bt, 0, none⟩)] (fun _ _ => True) (fun _ wz => ∃ v', Blk wz bx ((nodeL xk sk).map (Value.int .u8)).toArray 23 ∧ Blk wz bt #[v'] 31 ∧ OwnR wz [bx, bt] base v' (([lt] ++ tk) ++ [(nodeX xk sk)])) (fun _ _ _ _ h _ => h) (fun _ _ _ ⟨v', h1, h2, h3⟩ hb => ⟨v', h1.below hb, h2.below hb, h3.below hb⟩) rfl (fun w1 hb1 hF1 hG1 => ⟨by go_simp, ?_⟩) ?_
        · refine (up_l xk sk bx bt base v ([lt] ++ tk) w1 HXT.out HS.out hG1.1 hG1.2.1 hG1.2.2 (by omega) (by omega) (by omega) (Nat.le_trans hbww61 hb1.size) hlen hgx hgt hgb (tab_butIn (Htab.out.below HBw61.out) hb1 (tab_all hgx hgt hgb hfm))).mono ?_
          rintro e w2 ⟨rfl, v', q1, q2, q3, q4⟩
          exact ⟨_, rfl, q4, trivial, v', q1, q2, q3⟩
        rintro vr w1 hb1 hF1 _
        apply Exists.intro
        refine ⟨fun w3 hb3 hF3 => wpQuiet_nil rfl, ?_⟩
        refine FlowB.AlChk.nil ?_
        refine FlowB.Walk.fin fun w6 h6 _ hG6 => ?_
        simp only [List.drop_succ_cons, List.drop_zero]
        obtain ⟨v', q1, q2, q3⟩ := hG6
        have HB6 := hid (h6.below HBw61.out HBw61.out.size (fun b hb => by
          rcases List.mem_cons.1 hb with h | hb
          · omega
          · rcases List.mem_cons.1 hb with h | hb
            · omega
            · have := hfm b hb; omega))
        have HQ1 := hid q1
        have HQ2 := hid q2
        have HQ3 := hid q3
        have hs6 := Nat.le_trans hbww61 h6.size
        clear h6 q1 q2 q3 hfr hfm
        go_wp2_with fail
        exact ⟨⟨k + 1, by omega, by first | rfl | simp, by rw [HZT.out, HTX.out]; exact HQ1.out, ⟨_, HQ2.out, by rw [HZT.out, HRX.out, ← List.append_assoc]; exact HQ3.out⟩, hs6, HB6.out⟩, by simp [intOf]; omega⟩
    · skip
      have hke : k = yn := by omega
      subst hke
      have hcI : ¬ (k : Int) < (k : Int) := by omega
      rw [show (ds.zip bs).take k = ds.zip bs from List.take_of_length_le (by simp; omega)] at HOwr
      have hll : ([lt] ++ trailF x (ds.zip bs)).length ≤ 1000 := by rw [List.length_append, trailF_length]; simp; omega
      generalize hTT : [lt] ++ trailF x (ds.zip bs) = TT at *
      have HTT := hid hTT
      clear hTT
      obtain ⟨a9, c9, hv9, -⟩ := HOwr.out.texts
      subst hv9
      obtain ⟨N9, hN9⟩ : ∃ N, N = TT.length := ⟨_, rfl⟩
      rw [← hN9] at HOwr Ktwr
      have HN9 := hid hN9
      have hl9 := HOwr.out.from
      clear hN9
      go_wp2_with fail
      refine (end_any bx bt base a9 N9 c9 TT _ Ktwr.out HOwr.out (by omega) hll).mono ?_
      rintro e w8 ⟨rfl, o8, r8⟩
      have HO8 := hid (r8.below HBwr.out hswr (fun b hb => by have := hl9 b hb; omega))
      have HP8 := hid o8
      clear o8 r8 hl9
      go_wp2_with fail
      go_returns
      exact ⟨.slice a9 N9 c9, rfl, [bx, bt], base, by omega, by have HR := HP8.out; rw [← HTT.out] at HR; simpa using HR, HO8.out⟩
end Go.Proofs.YtkakoiaahgchmaaDoor
namespace Go.Proofs.YtkakoiaahgchmaaDoor
set_option maxRecDepth 100000
open Go.ChangeShapes Go.WideShapes Go.ChangeAt Go.RowKit
theorem conv_a23 (W : World) : (convert 29 29 (.slice (some ⟨W.heap.size, 0, none⟩) 1 1)).run Tryd.prog (W.alloc (.cells #[.int .u8 97] 5)) = .ok (.slice (some ⟨W.heap.size, 0, none⟩) 1 1) (W.alloc (.cells #[.int .u8 97] 5 (1, 2))) := by
  have h := Go.Lib.run_convert_bytes_const (P := Tryd.prog) W 29 5 #[.int .u8 97] 1 1 Tryd.underlying29 Tryd.underlying5
  simpa using h
theorem BoolsAt.nil (w : World) : BoolsAt w none 0 0 [] := ⟨rfl, Nat.le_refl _, .inl rfl⟩
theorem TextAt.some_ {w : World} {a : Option Addr} {len cap : Nat} {t : List Int} (h : TextAt w a len cap t) (hl : 0 < len) : ∃ p : Addr, a = some p ∧ p.block < w.heap.size := by
  obtain ⟨h1, h2, h3, h4, h | ⟨x, o, s, rfl, hc⟩⟩ := h
  · omega
  · exact ⟨_, rfl, (hc 0 hl).2.1⟩
set_option maxHeartbeats 4000000 in
theorem sides_one (i : Int) (w : World) :
    Calls Tryd.prog 43 #[.int .i64 1, .int .i64 i] w fun e w' => e = .returned (.slice none 0 0) ∧ Below w.heap.size w w' := by
  have Hb := hid (Below.refl w.heap.size w)
  go_enter Tryd.func43, Tryd.ntmps43
  go_wp2_with fail
  go_loopw [0, 1, 5] (fun nv iv sv wr => nv = .int .i64 1 ∧ sv = .slice none 0 0 ∧ Below w.heap.size w wr) (fun _ _ _ _ => 0)
  case atStart => exact ⟨rfl, rfl, Hb.out⟩
  case round =>
    obtain ⟨rfl, rfl, bel⟩ := hrel
    have HBwr := hid bel
    clear bel
    go_wp2_with fail
    refine (revB_any (e := 4) none 0 0 0 [] wr (OwnV.nil wr 0 4) (by simp)).mono ?_
    rintro e2 w1 ⟨rfl, -, b1⟩
    have HB1 := hid (b1.below HBwr.out HBwr.out.size (by simp [Value.ownBlock]))
    clear b1
    go_wp2_with fail
    go_returns
    exact ⟨rfl, HB1.out⟩
set_option maxHeartbeats 4000000 in
theorem text_one (a : Option Addr) (n c : Nat) (t : List Int) (w : World) (hT : TextAt w a n c t) (hn : n ≤ 1000) (tab : ShaTab w) :
    Calls Tryd.prog 14 #[.int .i64 1, .int .i64 0, .slice a n c, .slice none 0 0] w fun e w' => ∃ v, e = .returned v ∧ ∃ Sx base, w.heap.size ≤ base ∧ OwnR w' Sx base v [0 :: t] ∧ Below w.heap.size w w' := by
  have Hb := hid (Below.refl w.heap.size w)
  have Htab := hid tab
  clear  tab 
  have HT := hid hT
  have HL := hid (Dg.leafL t)
  clear hT
  go_enter Tryd.func14, Tryd.ntmps14
  go_wp2_with fail
  refine (sides_one 0 _).mono ?_
  rintro e w1 ⟨rfl, bw1⟩
  have HBw1 := hid (Below.on Hb.out bw1)
  have hsw1 := HBw1.out.size
  clear bw1
  go_wp2_with fail
  refine (loleaf_any a n c t _ (HT.out.below HBw1.out) (by omega) (Htab.out.below HBw1.out)).mono ?_
  rintro e w2 ⟨rfl, bw2⟩
  have HBw2 := hid (Below.on HBw1.out bw2)
  have hsw2 := HBw2.out.size
  clear bw2
  go_wp2_with fail
  have HBA := hid (HBw2.out.alloc HBw2.out.size (.cells #[.slice a n c] 29 (0, 0)))
  have HS := hid (TextsAt.of_blk (n := 1) (cap := 1) (ts := [t]) (Blk.new (w := w2) rfl #[.slice a n c] 29) rfl (Nat.le_refl _) (by omega) fun j hj => by
    match j, hj with
    | 0, _ => exact ⟨_, _, _, rfl, HT.out.below HBA.out⟩)
  refine (joined_any 0 _ _ _ [t] _ (by omega) HS.out (by simp only [sumLen, List.map_cons, List.map_nil, List.sum_cons, List.sum_nil]; have := HT.out.length; omega)).mono ?_
  rintro e w8 ⟨v8, rfl, b8, o8⟩
  have HB8 := hid (Below.on HBA.out b8)
  have hs8 := b8.size
  obtain ⟨a8, c8, rfl, q1, q2⟩ := o8.text2
  rw [show ([0] : List Int) ++ ([t] : List (List Int)).flatten = 0 :: t by simp] at q1 ⊢
  obtain ⟨p8, rfl, hp8⟩ := q1.some_ (by simp)
  obtain ⟨N8, hN8⟩ : ∃ N, N = (0 :: t).length := ⟨_, rfl⟩
  rw [← hN8] at q1 ⊢
  have HT8 := hid q1
  clear q1 q2 b8 o8 hN8
  go_wp2_with fail
  refine (climbed_text (leafL t) none 0 0 [] none 0 [] p8 N8 c8 (0 :: t) w8 HL.out (DigsAt.nil _) (BoolsAt.nil _) (by omega) (Htab.out.below HB8.out) HT8.out hp8).mono ?_
  rintro e w9 ⟨v9, rfl, Sx, base, h1, h2, h3⟩
  have HO9 := hid h2
  have HB9 := hid (Below.on HB8.out h3)
  have h19 := Nat.le_trans HB8.out.size h1
  clear h2 h3 h1
  go_wp2_with fail
  go_returns
  exact ⟨_, rfl, Sx, base, h19, by have := HO9.out; simpa [trailF] using this, HB9.out⟩
set_option maxHeartbeats 4000000 in
theorem grow_zero (x : List Int) (n : Int) (a : Option Addr) (l c : Nat) (w : World) (_hx : Dg x) :
    Calls Tryd.prog 15 #[.agg (x.map (Value.int .u8)).toArray, .int .i64 0, .int .i64 n, .slice a l c] w fun e w' => e = .returned (.slice none 0 0) ∧ Below w.heap.size w w' := by
  have b1 := (Below.refl w.heap.size w).alloc (Nat.le_refl _) (.cells (x.map (Value.int .u8)).toArray 23 (0, 0))
  have Kz := hid (Blk.new (w := w) (n := w.heap.size) rfl (x.map (Value.int .u8)).toArray 23)
  have Hb := hid b1
  have hbz := b1.size
  have Hbs := hid (show w.heap.size + 1 = (w.alloc (.cells (x.map (Value.int .u8)).toArray 23 (0, 0))).heap.size by simp only [World.size_alloc])
  clear b1 
  go_enter Tryd.func15, Tryd.ntmps15
  go_wp2_with fail
  go_returns
  exact ⟨rfl, Hb.out⟩
set_option maxHeartbeats 4000000 in
theorem knows23 (w : World) (tab : ShaTab w) : Calls Tryd.prog 9 #[] w fun e w' => e = .returned (.bool true) ∧ Below w.heap.size w w' := by
  have Hb := hid (Below.refl w.heap.size w)
  have Htab := hid tab
  clear  tab 
  have hcv := conv_a23
  have hA := hid (TextAt.made (w := w) (bs := [97]) (n := 1) (T := 5) (1, 2) rfl (by omega) (by simp))
  have HB1 := hid ((Below.refl w.heap.size w).alloc (Nat.le_refl _) (.cells #[.int .u8 97] 5 (1, 2)))
  go_enter Tryd.func9, Tryd.ntmps9
  go_wp2_with fail
  refine (text_one _ _ _ [97] _ hA.out (by omega) (Htab.out.below HB1.out)).mono ?_
  rintro e w2 ⟨v2, rfl, Sx, base, -, o2, b2⟩
  have HB2 := hid (Below.on HB1.out b2)
  obtain ⟨a2, c2, rfl, ht2⟩ := o2.texts
  have HT2 := hid (show TextsAt w2 a2 1 c2 [[0, 97]] from ht2)
  rw [show ([[0, 97]] : List (List Int)).length = 1 from rfl]
  have hs2 := HB2.out.size
  clear b2 o2 ht2
  go_wp2_with fail
  refine (part_none _ _ _ _ _ _ _ _ _ HT2.out HT2.out (firstU_none fun _ _ => rfl)).mono ?_
  rintro e w3 ⟨rfl, bw3⟩
  have HBw3 := hid (Below.on HB2.out bw3)
  have hsw3 := HBw3.out.size
  have HTX := hid (HT2.out.below bw3)
  clear bw3
  go_wp2_with fail
  have HX0 := hid (show TextAt ((((((w3.alloc (.cells #[.int .u8 1] 5 (0, 0))).alloc (.cells #[.int .u8 2] 5 (0, 0))).alloc (.cells #[.slice (some ⟨w3.heap.size, 0, none⟩) 1 1, .slice (some ⟨w3.heap.size + 1, 0, none⟩) 1 1] 29 (0, 0))).alloc (.cells #[.int .u8 1] 5 (0, 0))).alloc (.cells #[.int .u8 3] 5 (0, 0))).alloc (.cells #[.slice (some ⟨w3.heap.size + 1 + 1 + 1, 0, none⟩) 1 1, .slice (some ⟨w3.heap.size + 1 + 1 + 1 + 1, 0, none⟩) 1 1] 29 (0, 0))) (some ⟨w3.heap.size, 0, none⟩) 1 1 [1] from by
    have h := (TextAt.made (w := w3) (bs := [1]) (n := 1) (T := 5) (0, 0) rfl (by omega) (by simp)).below ((((((Below.refl ((w3.alloc (.cells #[.int .u8 1] 5 (0, 0)))).heap.size ((w3.alloc (.cells #[.int .u8 1] 5 (0, 0))))).alloc (Nat.le_refl _) (.cells #[.int .u8 2] 5 (0, 0))).alloc (by simp only [World.size_alloc]; omega) (.cells #[.slice (some ⟨w3.heap.size, 0, none⟩) 1 1, .slice (some ⟨w3.heap.size + 1, 0, none⟩) 1 1] 29 (0, 0))).alloc (by simp only [World.size_alloc]; omega) (.cells #[.int .u8 1] 5 (0, 0))).alloc (by simp only [World.size_alloc]; omega) (.cells #[.int .u8 3] 5 (0, 0))).alloc (by simp only [World.size_alloc]; omega) (.cells #[.slice (some ⟨w3.heap.size + 1 + 1 + 1, 0, none⟩) 1 1, .slice (some ⟨w3.heap.size + 1 + 1 + 1 + 1, 0, none⟩) 1 1] 29 (0, 0)))
    rw [show (w3).heap.size = w3.heap.size by first | rfl | simp only [World.size_alloc]] at h
    exact h)
  have HX1 := hid (show TextAt ((((((w3.alloc (.cells #[.int .u8 1] 5 (0, 0))).alloc (.cells #[.int .u8 2] 5 (0, 0))).alloc (.cells #[.slice (some ⟨w3.heap.size, 0, none⟩) 1 1, .slice (some ⟨w3.heap.size + 1, 0, none⟩) 1 1] 29 (0, 0))).alloc (.cells #[.int .u8 1] 5 (0, 0))).alloc (.cells #[.int .u8 3] 5 (0, 0))).alloc (.cells #[.slice (some ⟨w3.heap.size + 1 + 1 + 1, 0, none⟩) 1 1, .slice (some ⟨w3.heap.size + 1 + 1 + 1 + 1, 0, none⟩) 1 1] 29 (0, 0))) (some ⟨w3.heap.size + 1, 0, none⟩) 1 1 [2] from by
    have h := (TextAt.made (w := (w3.alloc (.cells #[.int .u8 1] 5 (0, 0)))) (bs := [2]) (n := 1) (T := 5) (0, 0) rfl (by omega) (by simp)).below (((((Below.refl (((w3.alloc (.cells #[.int .u8 1] 5 (0, 0))).alloc (.cells #[.int .u8 2] 5 (0, 0)))).heap.size (((w3.alloc (.cells #[.int .u8 1] 5 (0, 0))).alloc (.cells #[.int .u8 2] 5 (0, 0))))).alloc (Nat.le_refl _) (.cells #[.slice (some ⟨w3.heap.size, 0, none⟩) 1 1, .slice (some ⟨w3.heap.size + 1, 0, none⟩) 1 1] 29 (0, 0))).alloc (by simp only [World.size_alloc]; omega) (.cells #[.int .u8 1] 5 (0, 0))).alloc (by simp only [World.size_alloc]; omega) (.cells #[.int .u8 3] 5 (0, 0))).alloc (by simp only [World.size_alloc]; omega) (.cells #[.slice (some ⟨w3.heap.size + 1 + 1 + 1, 0, none⟩) 1 1, .slice (some ⟨w3.heap.size + 1 + 1 + 1 + 1, 0, none⟩) 1 1] 29 (0, 0)))
    rw [show ((w3.alloc (.cells #[.int .u8 1] 5 (0, 0)))).heap.size = w3.heap.size + 1 by first | rfl | simp only [World.size_alloc]] at h
    exact h)
  have HX3 := hid (show TextAt ((((((w3.alloc (.cells #[.int .u8 1] 5 (0, 0))).alloc (.cells #[.int .u8 2] 5 (0, 0))).alloc (.cells #[.slice (some ⟨w3.heap.size, 0, none⟩) 1 1, .slice (some ⟨w3.heap.size + 1, 0, none⟩) 1 1] 29 (0, 0))).alloc (.cells #[.int .u8 1] 5 (0, 0))).alloc (.cells #[.int .u8 3] 5 (0, 0))).alloc (.cells #[.slice (some ⟨w3.heap.size + 1 + 1 + 1, 0, none⟩) 1 1, .slice (some ⟨w3.heap.size + 1 + 1 + 1 + 1, 0, none⟩) 1 1] 29 (0, 0))) (some ⟨w3.heap.size + 1 + 1 + 1, 0, none⟩) 1 1 [1] from by
    have h := (TextAt.made (w := (((w3.alloc (.cells #[.int .u8 1] 5 (0, 0))).alloc (.cells #[.int .u8 2] 5 (0, 0))).alloc (.cells #[.slice (some ⟨w3.heap.size, 0, none⟩) 1 1, .slice (some ⟨w3.heap.size + 1, 0, none⟩) 1 1] 29 (0, 0)))) (bs := [1]) (n := 1) (T := 5) (0, 0) rfl (by omega) (by simp)).below (((Below.refl (((((w3.alloc (.cells #[.int .u8 1] 5 (0, 0))).alloc (.cells #[.int .u8 2] 5 (0, 0))).alloc (.cells #[.slice (some ⟨w3.heap.size, 0, none⟩) 1 1, .slice (some ⟨w3.heap.size + 1, 0, none⟩) 1 1] 29 (0, 0))).alloc (.cells #[.int .u8 1] 5 (0, 0)))).heap.size (((((w3.alloc (.cells #[.int .u8 1] 5 (0, 0))).alloc (.cells #[.int .u8 2] 5 (0, 0))).alloc (.cells #[.slice (some ⟨w3.heap.size, 0, none⟩) 1 1, .slice (some ⟨w3.heap.size + 1, 0, none⟩) 1 1] 29 (0, 0))).alloc (.cells #[.int .u8 1] 5 (0, 0))))).alloc (Nat.le_refl _) (.cells #[.int .u8 3] 5 (0, 0))).alloc (by simp only [World.size_alloc]; omega) (.cells #[.slice (some ⟨w3.heap.size + 1 + 1 + 1, 0, none⟩) 1 1, .slice (some ⟨w3.heap.size + 1 + 1 + 1 + 1, 0, none⟩) 1 1] 29 (0, 0)))
    rw [show ((((w3.alloc (.cells #[.int .u8 1] 5 (0, 0))).alloc (.cells #[.int .u8 2] 5 (0, 0))).alloc (.cells #[.slice (some ⟨w3.heap.size, 0, none⟩) 1 1, .slice (some ⟨w3.heap.size + 1, 0, none⟩) 1 1] 29 (0, 0)))).heap.size = w3.heap.size + 1 + 1 + 1 by first | rfl | simp only [World.size_alloc]] at h
    exact h)
  have HX4 := hid (show TextAt ((((((w3.alloc (.cells #[.int .u8 1] 5 (0, 0))).alloc (.cells #[.int .u8 2] 5 (0, 0))).alloc (.cells #[.slice (some ⟨w3.heap.size, 0, none⟩) 1 1, .slice (some ⟨w3.heap.size + 1, 0, none⟩) 1 1] 29 (0, 0))).alloc (.cells #[.int .u8 1] 5 (0, 0))).alloc (.cells #[.int .u8 3] 5 (0, 0))).alloc (.cells #[.slice (some ⟨w3.heap.size + 1 + 1 + 1, 0, none⟩) 1 1, .slice (some ⟨w3.heap.size + 1 + 1 + 1 + 1, 0, none⟩) 1 1] 29 (0, 0))) (some ⟨w3.heap.size + 1 + 1 + 1 + 1, 0, none⟩) 1 1 [3] from by
    have h := (TextAt.made (w := ((((w3.alloc (.cells #[.int .u8 1] 5 (0, 0))).alloc (.cells #[.int .u8 2] 5 (0, 0))).alloc (.cells #[.slice (some ⟨w3.heap.size, 0, none⟩) 1 1, .slice (some ⟨w3.heap.size + 1, 0, none⟩) 1 1] 29 (0, 0))).alloc (.cells #[.int .u8 1] 5 (0, 0)))) (bs := [3]) (n := 1) (T := 5) (0, 0) rfl (by omega) (by simp)).below ((Below.refl ((((((w3.alloc (.cells #[.int .u8 1] 5 (0, 0))).alloc (.cells #[.int .u8 2] 5 (0, 0))).alloc (.cells #[.slice (some ⟨w3.heap.size, 0, none⟩) 1 1, .slice (some ⟨w3.heap.size + 1, 0, none⟩) 1 1] 29 (0, 0))).alloc (.cells #[.int .u8 1] 5 (0, 0))).alloc (.cells #[.int .u8 3] 5 (0, 0)))).heap.size ((((((w3.alloc (.cells #[.int .u8 1] 5 (0, 0))).alloc (.cells #[.int .u8 2] 5 (0, 0))).alloc (.cells #[.slice (some ⟨w3.heap.size, 0, none⟩) 1 1, .slice (some ⟨w3.heap.size + 1, 0, none⟩) 1 1] 29 (0, 0))).alloc (.cells #[.int .u8 1] 5 (0, 0))).alloc (.cells #[.int .u8 3] 5 (0, 0))))).alloc (Nat.le_refl _) (.cells #[.slice (some ⟨w3.heap.size + 1 + 1 + 1, 0, none⟩) 1 1, .slice (some ⟨w3.heap.size + 1 + 1 + 1 + 1, 0, none⟩) 1 1] 29 (0, 0)))
    rw [show (((((w3.alloc (.cells #[.int .u8 1] 5 (0, 0))).alloc (.cells #[.int .u8 2] 5 (0, 0))).alloc (.cells #[.slice (some ⟨w3.heap.size, 0, none⟩) 1 1, .slice (some ⟨w3.heap.size + 1, 0, none⟩) 1 1] 29 (0, 0))).alloc (.cells #[.int .u8 1] 5 (0, 0)))).heap.size = w3.heap.size + 1 + 1 + 1 + 1 by first | rfl | simp only [World.size_alloc]] at h
    exact h)
  have HR2 := hid (show TextsAt ((((((w3.alloc (.cells #[.int .u8 1] 5 (0, 0))).alloc (.cells #[.int .u8 2] 5 (0, 0))).alloc (.cells #[.slice (some ⟨w3.heap.size, 0, none⟩) 1 1, .slice (some ⟨w3.heap.size + 1, 0, none⟩) 1 1] 29 (0, 0))).alloc (.cells #[.int .u8 1] 5 (0, 0))).alloc (.cells #[.int .u8 3] 5 (0, 0))).alloc (.cells #[.slice (some ⟨w3.heap.size + 1 + 1 + 1, 0, none⟩) 1 1, .slice (some ⟨w3.heap.size + 1 + 1 + 1 + 1, 0, none⟩) 1 1] 29 (0, 0))) (some ⟨w3.heap.size + 1 + 1, 0, none⟩) 2 2 [[1], [2]] from by
    have k := (Blk.new (w := ((w3.alloc (.cells #[.int .u8 1] 5 (0, 0))).alloc (.cells #[.int .u8 2] 5 (0, 0)))) (n := w3.heap.size + 1 + 1) (by first | rfl | simp only [World.size_alloc]) #[.slice (some ⟨w3.heap.size, 0, none⟩) 1 1, .slice (some ⟨w3.heap.size + 1, 0, none⟩) 1 1] 29).below ((((Below.refl ((((w3.alloc (.cells #[.int .u8 1] 5 (0, 0))).alloc (.cells #[.int .u8 2] 5 (0, 0))).alloc (.cells #[.slice (some ⟨w3.heap.size, 0, none⟩) 1 1, .slice (some ⟨w3.heap.size + 1, 0, none⟩) 1 1] 29 (0, 0)))).heap.size ((((w3.alloc (.cells #[.int .u8 1] 5 (0, 0))).alloc (.cells #[.int .u8 2] 5 (0, 0))).alloc (.cells #[.slice (some ⟨w3.heap.size, 0, none⟩) 1 1, .slice (some ⟨w3.heap.size + 1, 0, none⟩) 1 1] 29 (0, 0))))).alloc (Nat.le_refl _) (.cells #[.int .u8 1] 5 (0, 0))).alloc (by simp only [World.size_alloc]; omega) (.cells #[.int .u8 3] 5 (0, 0))).alloc (by simp only [World.size_alloc]; omega) (.cells #[.slice (some ⟨w3.heap.size + 1 + 1 + 1, 0, none⟩) 1 1, .slice (some ⟨w3.heap.size + 1 + 1 + 1 + 1, 0, none⟩) 1 1] 29 (0, 0)))
    exact TextsAt.of_blk (n := 2) (cap := 2) k rfl (Nat.le_refl _) (by omega) fun j hj => by
      match j, hj with
      | 0, _ => exact ⟨_, _, _, rfl, HX0.out⟩
      | 1, _ => exact ⟨_, _, _, rfl, HX1.out⟩)
  have HR5 := hid (show TextsAt ((((((w3.alloc (.cells #[.int .u8 1] 5 (0, 0))).alloc (.cells #[.int .u8 2] 5 (0, 0))).alloc (.cells #[.slice (some ⟨w3.heap.size, 0, none⟩) 1 1, .slice (some ⟨w3.heap.size + 1, 0, none⟩) 1 1] 29 (0, 0))).alloc (.cells #[.int .u8 1] 5 (0, 0))).alloc (.cells #[.int .u8 3] 5 (0, 0))).alloc (.cells #[.slice (some ⟨w3.heap.size + 1 + 1 + 1, 0, none⟩) 1 1, .slice (some ⟨w3.heap.size + 1 + 1 + 1 + 1, 0, none⟩) 1 1] 29 (0, 0))) (some ⟨w3.heap.size + 1 + 1 + 1 + 1 + 1, 0, none⟩) 2 2 [[1], [3]] from by
    have k := (Blk.new (w := (((((w3.alloc (.cells #[.int .u8 1] 5 (0, 0))).alloc (.cells #[.int .u8 2] 5 (0, 0))).alloc (.cells #[.slice (some ⟨w3.heap.size, 0, none⟩) 1 1, .slice (some ⟨w3.heap.size + 1, 0, none⟩) 1 1] 29 (0, 0))).alloc (.cells #[.int .u8 1] 5 (0, 0))).alloc (.cells #[.int .u8 3] 5 (0, 0)))) (n := w3.heap.size + 1 + 1 + 1 + 1 + 1) (by first | rfl | simp only [World.size_alloc]) #[.slice (some ⟨w3.heap.size + 1 + 1 + 1, 0, none⟩) 1 1, .slice (some ⟨w3.heap.size + 1 + 1 + 1 + 1, 0, none⟩) 1 1] 29).below (Below.refl (((((((w3.alloc (.cells #[.int .u8 1] 5 (0, 0))).alloc (.cells #[.int .u8 2] 5 (0, 0))).alloc (.cells #[.slice (some ⟨w3.heap.size, 0, none⟩) 1 1, .slice (some ⟨w3.heap.size + 1, 0, none⟩) 1 1] 29 (0, 0))).alloc (.cells #[.int .u8 1] 5 (0, 0))).alloc (.cells #[.int .u8 3] 5 (0, 0))).alloc (.cells #[.slice (some ⟨w3.heap.size + 1 + 1 + 1, 0, none⟩) 1 1, .slice (some ⟨w3.heap.size + 1 + 1 + 1 + 1, 0, none⟩) 1 1] 29 (0, 0)))).heap.size (((((((w3.alloc (.cells #[.int .u8 1] 5 (0, 0))).alloc (.cells #[.int .u8 2] 5 (0, 0))).alloc (.cells #[.slice (some ⟨w3.heap.size, 0, none⟩) 1 1, .slice (some ⟨w3.heap.size + 1, 0, none⟩) 1 1] 29 (0, 0))).alloc (.cells #[.int .u8 1] 5 (0, 0))).alloc (.cells #[.int .u8 3] 5 (0, 0))).alloc (.cells #[.slice (some ⟨w3.heap.size + 1 + 1 + 1, 0, none⟩) 1 1, .slice (some ⟨w3.heap.size + 1 + 1 + 1 + 1, 0, none⟩) 1 1] 29 (0, 0)))))
    exact TextsAt.of_blk (n := 2) (cap := 2) k rfl (Nat.le_refl _) (by omega) fun j hj => by
      match j, hj with
      | 0, _ => exact ⟨_, _, _, rfl, HX3.out⟩
      | 1, _ => exact ⟨_, _, _, rfl, HX4.out⟩)
  have HBV := hid (Below.on HBw3.out (((((((Below.refl (w3).heap.size (w3)).alloc (Nat.le_refl _) (.cells #[.int .u8 1] 5 (0, 0))).alloc (by simp only [World.size_alloc]; omega) (.cells #[.int .u8 2] 5 (0, 0))).alloc (by simp only [World.size_alloc]; omega) (.cells #[.slice (some ⟨w3.heap.size, 0, none⟩) 1 1, .slice (some ⟨w3.heap.size + 1, 0, none⟩) 1 1] 29 (0, 0))).alloc (by simp only [World.size_alloc]; omega) (.cells #[.int .u8 1] 5 (0, 0))).alloc (by simp only [World.size_alloc]; omega) (.cells #[.int .u8 3] 5 (0, 0))).alloc (by simp only [World.size_alloc]; omega) (.cells #[.slice (some ⟨w3.heap.size + 1 + 1 + 1, 0, none⟩) 1 1, .slice (some ⟨w3.heap.size + 1 + 1 + 1 + 1, 0, none⟩) 1 1] 29 (0, 0))))
  refine (part_some _ _ _ _ _ _ [[1], [2]] [[1], [3]] _ HR2.out HR5.out (by simp) (by simp) (k := 1) (firstU_some (by simp) (by simp) (fun j hj => by
    have : j = 0 := by omega
    subst this; rfl) (by simp))).mono ?_
  rintro e w5 ⟨u5, v5, rfl, ⟨p5, m5, q5, rfl, hu5⟩, ⟨p6, m6, q6, rfl, hv5⟩, b5⟩
  have HB5 := hid (Below.on HBV.out b5)
  obtain ⟨x, o, a', l', c', rfl, hx, hxc, hxt⟩ := ((HTX.out.below (((((((Below.refl (w3).heap.size (w3)).alloc (Nat.le_refl _) (.cells #[.int .u8 1] 5 (0, 0))).alloc (by simp only [World.size_alloc]; omega) (.cells #[.int .u8 2] 5 (0, 0))).alloc (by simp only [World.size_alloc]; omega) (.cells #[.slice (some ⟨w3.heap.size, 0, none⟩) 1 1, .slice (some ⟨w3.heap.size + 1, 0, none⟩) 1 1] 29 (0, 0))).alloc (by simp only [World.size_alloc]; omega) (.cells #[.int .u8 1] 5 (0, 0))).alloc (by simp only [World.size_alloc]; omega) (.cells #[.int .u8 3] 5 (0, 0))).alloc (by simp only [World.size_alloc]; omega) (.cells #[.slice (some ⟨w3.heap.size + 1 + 1 + 1, 0, none⟩) 1 1, .slice (some ⟨w3.heap.size + 1 + 1 + 1 + 1, 0, none⟩) 1 1] 29 (0, 0)))).below b5).at_ 0 (by omega)
  have cv0 : (convert 29 9 (.slice a' l' c')).run Tryd.prog w5 = .ok (.string { data := #[0, 97] }) w5 := hxt.string Tryd.underlying29 Tryd.underlying5 Tryd.underlying9
  have cv1 : (convert 29 9 (.slice p5 m5 q5)).run Tryd.prog w5 = .ok (.string { data := #[2] }) w5 := hu5.string Tryd.underlying29 Tryd.underlying5 Tryd.underlying9
  have cv2 : (convert 29 9 (.slice p6 m6 q6)).run Tryd.prog w5 = .ok (.string { data := #[3] }) w5 := hv5.string Tryd.underlying29 Tryd.underlying5 Tryd.underlying9
  have hxc0 : w5.cell? ⟨x, o, none⟩ = some (.slice a' l' c') := hxc
  clear hu5 hv5 b5 hxt hcv hxc
  go_wp2_with (refine wpList_index_s 1 (by first | rfl | go_simp) 31 _ _ rfl Tryd.underlying31 size_text x o 1 c2 rfl _ _ rfl 0 rfl (by omega) ?_)
  refine (grow_zero zD _ _ _ _ _ Dg.zero).mono ?_
  rintro e w6 ⟨rfl, bw6⟩
  have HBw6 := hid (Below.on HB5.out bw6)
  have hsw6 := HBw6.out.size
  clear bw6
  go_wp2_with fail
  go_returns
  exact ⟨by first | rfl | simp, HBw6.out⟩
end Go.Proofs.YtkakoiaahgchmaaDoor
namespace Go.Proofs.YtkakoiaahgchmaaDoor
set_option maxRecDepth 100000
open Go.ChangeShapes Go.WideShapes Go.ChangeAt Go.RowKit
def partI (o : Option Nat) : Int := match o with
  | none => -1
  | some k => k
end Go.Proofs.YtkakoiaahgchmaaDoor
namespace Go.Proofs.YtkakoiaahgchmaaDoor
set_option maxRecDepth 100000
open Go.ChangeShapes Go.WideShapes Go.ChangeAt Go.RowKit
/-- Does a commitment come of this value? -/
def isV (c s v : List Int) : Bool := decide (v.length ≤ 64) && decide (c = madeZ s v)
/-- What is summed. -/
def valX (s v : List Int) : List Int := [2] ++ (s ++ v)
end Go.Proofs.YtkakoiaahgchmaaDoor
namespace Go.Proofs.YtkakoiaahgchmaaDoor
set_option maxRecDepth 100000
open Go.ChangeShapes Go.WideShapes Go.ChangeAt Go.RowKit
/-- From the top of a log of n texts on: is the place i on the right? -/
def sidesF : Nat → Nat → Nat → List Bool
  | 0, _, _ => []
  | f + 1, n, i => if n = 1 then [] else if i < halfN n then false :: sidesF f (halfN n) i else true :: sidesF f (n - halfN n) (i - halfN n)
theorem sidesF_one (f i : Nat) : sidesF f 1 i = [] := by
  cases f with
  | zero => rfl
  | succ f => simp [sidesF]
theorem zip_rev_snoc {ds : List (List Int)} {L : List Bool} (b : Bool) (hl : L.length + 1 ≤ ds.length) : (ds.take (L.length + 1)).zip (L.reverse ++ [b]) = (ds.take L.length).zip L.reverse ++ [(ds.getD L.length [], b)] := by
  rw [show ds.take (L.length + 1) = ds.take L.length ++ [ds.getD L.length []] by
    rw [List.take_succ_eq_append_getElem (by omega), List.getD_eq_getElem?_getD, List.getElem?_eq_getElem (by omega)]; rfl]
  rw [List.zip_append (by simp; omega)]
  rfl
theorem sidesF_length (f : Nat) : ∀ n i, n ≤ f → 1 ≤ n → (sidesF f n i).length < n := by
  induction f with
  | zero => intro n i h1 h2; omega
  | succ f ih =>
    intro n i h1 h2
    unfold sidesF
    by_cases hn : n = 1
    · rw [if_pos hn]; simp; omega
    · rw [if_neg hn]
      have hh := halfN_lt (n := n) (by omega)
      split
      · have := ih (halfN n) i (by omega) (by omega)
        rw [List.length_cons]; omega
      · have := ih (n - halfN n) (i - halfN n) (by omega) (by omega)
        rw [List.length_cons]; omega
theorem nodeL_nodeX (a b : List Int) : nodeL a b = sumZ (nodeX a b) := by
  unfold nodeL nodeX
  rfl
end Go.Proofs.YtkakoiaahgchmaaDoor
namespace Go.Proofs.YtkakoiaahgchmaaDoor
set_option maxRecDepth 100000
open Go.ChangeShapes Go.WideShapes Go.ChangeAt Go.RowKit
theorem info_bool : (Tryd.prog.info? 4).map (fun i => (i.zero, i.size, i.bytes)) = some (some (.bool false), 1, 1) := by kernel_rfl
theorem sidesF_fuel : ∀ (f g n i : Nat), n ≤ f → n ≤ g → 1 ≤ n → sidesF f n i = sidesF g n i := by
  intro f
  induction f with
  | zero => intro g n i h1 _ h3; omega
  | succ f ih =>
    intro g n i h1 h2 h3
    cases g with
    | zero => omega
    | succ g =>
      unfold sidesF
      by_cases hn : n = 1
      · rw [if_pos hn, if_pos hn]
      · rw [if_neg hn, if_neg hn]
        have hh := halfN_lt (n := n) (by omega)
        by_cases hi : i < halfN n
        · rw [if_pos hi, if_pos hi, ih g (halfN n) i (by omega) (by omega) (by omega)]
        · rw [if_neg hi, if_neg hi, ih g (n - halfN n) (i - halfN n) (by omega) (by omega) (by omega)]
theorem sidesF_left {n i : Nat} (h : 2 ≤ n) (hi : i < halfN n) : sidesF n n i = false :: sidesF (halfN n) (halfN n) i := by
  have hh := halfN_lt (n := n) h
  obtain ⟨k, rfl⟩ : ∃ k, n = k + 1 := ⟨n - 1, by omega⟩
  rw [show sidesF (k + 1) (k + 1) i = false :: sidesF k (halfN (k + 1)) i by rw [sidesF, if_neg (by omega), if_pos hi]]
  rw [sidesF_fuel k (halfN (k + 1)) (halfN (k + 1)) i (by omega) (by omega) (by omega)]
theorem sidesF_right {n i : Nat} (h : 2 ≤ n) (hi : ¬ i < halfN n) : sidesF n n i = true :: sidesF (n - halfN n) (n - halfN n) (i - halfN n) := by
  have hh := halfN_lt (n := n) h
  obtain ⟨k, rfl⟩ : ∃ k, n = k + 1 := ⟨n - 1, by omega⟩
  rw [show sidesF (k + 1) (k + 1) i = true :: sidesF k (k + 1 - halfN (k + 1)) (i - halfN (k + 1)) by rw [sidesF, if_neg (by omega), if_neg hi]]
  rw [sidesF_fuel k (k + 1 - halfN (k + 1)) (k + 1 - halfN (k + 1)) (i - halfN (k + 1)) (by omega) (by omega) (by omega)]
theorem wpList_append_v {ops : Array Oper} {rest : List Oper} {o : Oper} {A : Act} {w : World} {Q : Exit → Act → World → Prop} {base : Nat} {v : Value} {xs : List Value} {t e : TypeId} {i : TypeInfo} {z : Value} (hgd : o.guard = none) (s x : Operand) (ho : o.op = .call { callee := .builtin .append, args := #[s, x], argTypes := #[t, t] })
    (ht : Tryd.prog.underlying t = some (.slice e)) (hi : Tryd.prog.info? e = some i) (hz : i.zero = some z) (hzs : z.cells.size = 1) (hsize : i.size = 1) (hby : i.bytes ≤ 24) (hs : A.eval s = v) (hown : OwnV w base e v xs)
    {b : Nat} {u : Value} {T : TypeId} (hx : A.eval x = .slice (some ⟨b, 0, none⟩) 1 1) (hk : Blk w b #[u] T) (hu : u.oneCell' = true) (hb : xs.length ≤ 1000000000) (hbase : base ≤ w.heap.size)
    (h : ∀ v' w', OwnV w' base e v' (xs ++ [u]) → Below base w w' → wpList Tryd.prog ops Q rest (A.put o.dst v') w') : wpList Tryd.prog ops Q (o :: rest) A w :=
  wpList_plain hgd fun K hK => by
    obtain ⟨v', w', hr, h2, -, h4, -⟩ := run_append_v o.type ht hi hz hzs hsize hby hown hk hu hb hbase
    unfold Oper.wp execOp
    simp only [ho, resolve, invoke, builtin, Sem.run_bind, Sem.run_pure, Result.andThen_ok, List.map_toArray, List.map_cons, List.map_nil, hs, hx, hr, Oper.upon_value]
    exact hK _ _ (h v' w' h2 h4)
set_option maxHeartbeats 4000000 in
theorem half23_any (n : Nat) (w : World) (h : 2 ≤ n) (h2 : n ≤ 256) : Calls Tryd.prog 72 #[.int .i64 n] w fun e w' => e = .returned (.int .i64 (halfN n : Int)) ∧ w' = w := by
  obtain ⟨k, hk, hl, hn⟩ := log2_half h h2
  rw [hn]
  have CL := hid (fun W : World => len_any ((n : Int) - 1) W (by omega) (by omega))
  rw [hl] at CL
  have hw := wrap_pow7 hk
  have hw1 : wrap64 ((n : Int) - 1) = (n : Int) - 1 := by unfold wrap64; omega
  have hw2 : wrap64 ((k : Int) + 1 - 1) = (k : Int) := by unfold wrap64; omega
  have hk1 : (k : Int) + 1 - 1 = k := by omega
  have hw3 : wrap64 (k : Int) = (k : Int) := by unfold wrap64; omega
  have hc : ((n : Int) - 1) % 18446744073709551616 = (n : Int) - 1 := by omega
  go_enter Tryd.func72, Tryd.ntmps72
  go_wp2_with (go_at_call 77; refine (CL.out _).mono ?_; rintro e w' ⟨rfl, rfl⟩)
  go_ret
  exact ⟨by first | rfl | (rw [← hw]; rfl), rfl⟩
set_option maxHeartbeats 4000000 in
theorem textSides_any (n i : Nat) (w : World) (hn1 : 1 ≤ n) (hn2 : n ≤ 200) (hin : i < n) :
    Calls Tryd.prog 43 #[.int .i64 n, .int .i64 i] w fun e w' => ∃ v, e = .returned v ∧ OwnV w' w.heap.size 4 v ((sidesF n n i).reverse.map Value.bool) ∧ Below w.heap.size w w' := by
  have Hb := hid (Below.refl w.heap.size w)
  obtain ⟨i0, hi0, hz0, hz1, hz2⟩ := info_parts info_bool
  have H23 := hid half23_any
  go_enter Tryd.func43, Tryd.ntmps43
  go_wp2_with fail
  go_loopw [0, 1, 5] (fun nv iv sv wr => ∃ (p q : Nat) (acc : List Bool), 1 ≤ p ∧ q < p ∧ p ≤ n ∧ acc.length + p ≤ n ∧ nv = .int .i64 p ∧ iv = .int .i64 q ∧ OwnV wr w.heap.size 4 sv (acc.map Value.bool) ∧ acc ++ sidesF p p q = sidesF n n i ∧ Below w.heap.size w wr) (fun nv _ _ _ => (intOf nv).toNat)
  case atStart => exact ⟨n, i, [], hn1, hin, Nat.le_refl _, by simp, rfl, rfl, OwnV.nil _ _ _, rfl, Hb.out⟩
  case round =>
    obtain ⟨p, q, acc, hp1, hqp, hp2, hal, rfl, rfl, hov, hsd, bel⟩ := hrel
    have HBwr := hid bel
    have HO := hid hov
    have hswr := bel.size
    clear bel hov
    by_cases hp : 1 < p
    · skip
      have hpi : (1 : Int) < (p : Int) := by omega
      have hh := halfN_lt (n := p) (by omega)
      have HSL := hid (fun h => (sidesF_left (n := p) (i := q) (by omega) h))
      have HSR := hid (fun h => (sidesF_right (n := p) (i := q) (by omega) h))
      have HSD := hid hsd
      have C23 := hid (fun W : World => H23.out p W (by omega) (by omega))
      clear hsd
      generalize halfN p = K at *
      go_wp2_with fail
      refine (C23.out _).mono ?_
      rintro e w1 ⟨rfl, rfl⟩
      by_cases hq : q < K
      · skip
        have hqi : ¬ (K : Int) ≤ (q : Int) := by omega
        have HK1 := hid (Blk.new (w := w1) (n := w1.heap.size) rfl #[.bool false] 4)
        have HO1 := hid (HO.out.below ((Below.refl _ _).alloc (Nat.le_refl _) (.cells #[.bool false] 4 (0, 0))))
        have HB1 := hid (HBwr.out.alloc HBwr.out.size (.cells #[.bool false] 4 (0, 0)))
        go_wp2_with (
            at_builtin
            refine wpList_append_v rfl _ _ rfl Tryd.underlying76 hi0 hz0 rfl hz1 (by omega) rfl HO1.out rfl HK1.out rfl (by simp; omega) HB1.out.size ?_
            intro v5 w5 own5 b5
            have HO5 := hid own5
            have HB5 := hid (HB1.out.trans b5)
            clear own5 b5)
        exact ⟨⟨K, q, acc ++ [false], by omega, by omega, by omega, by simp; omega, by first | rfl | (simp; omega) | simp, by first | rfl | (simp; omega) | simp, by have := HO5.out; simpa using this, by rw [← HSD.out, HSL.out hq]; simp, HB5.out⟩, by simp [intOf]; omega⟩
      · skip
        have hqi : (K : Int) ≤ (q : Int) := by omega
        obtain ⟨p2, hp2'⟩ : ∃ z, z = p - K := ⟨_, rfl⟩
        obtain ⟨q2, hq2'⟩ : ∃ z, z = q - K := ⟨_, rfl⟩
        have hw1 : wrap64 ((p : Int) - (K : Int)) = (p2 : Int) := by unfold wrap64; omega
        have hw2 : wrap64 ((q : Int) - (K : Int)) = (q2 : Int) := by unfold wrap64; omega
        have HP2 := hid hp2'
        have HQ2 := hid hq2'
        clear hp2' hq2'
        have HK1 := hid (Blk.new (w := w1) (n := w1.heap.size) rfl #[.bool true] 4)
        have HO1 := hid (HO.out.below ((Below.refl _ _).alloc (Nat.le_refl _) (.cells #[.bool true] 4 (0, 0))))
        have HB1 := hid (HBwr.out.alloc HBwr.out.size (.cells #[.bool true] 4 (0, 0)))
        go_wp2_with (
            at_builtin
            refine wpList_append_v rfl _ _ rfl Tryd.underlying76 hi0 hz0 rfl hz1 (by omega) rfl HO1.out rfl HK1.out rfl (by simp; omega) HB1.out.size ?_
            intro v5 w5 own5 b5
            have HO5 := hid own5
            have HB5 := hid (HB1.out.trans b5)
            clear own5 b5)
        have hpp := HP2.out
        have hqq := HQ2.out
        exact ⟨⟨p2, q2, acc ++ [true], by omega, by omega, by omega, by simp; omega, by first | rfl | (simp; omega) | simp, by first | rfl | (simp; omega) | simp, by have := HO5.out; simpa using this, by rw [← HSD.out, HSR.out hq, HP2.out, HQ2.out]; simp, HB5.out⟩, by simp [intOf]; omega⟩
    · skip
      have hpe : p = 1 := by omega
      subst hpe
      rw [sidesF_one, List.append_nil] at hsd
      subst hsd
      obtain ⟨a, c, rfl, -⟩ := HO.out.slice
      rw [List.length_map] at HO ⊢
      have HAL := hid hal
      obtain ⟨N, hN⟩ : ∃ N, N = (sidesF n n i).length := ⟨_, rfl⟩
      rw [← hN] at HO ⊢
      have HN := hid hN
      have hN1 : N ≤ 200 := by omega
      have HMX := hid (show ((sidesF n n i).map Value.bool).length ≤ 1000000000 by rw [List.length_map]; omega)
      clear hN hal
      go_wp2_with fail
      refine (revB_any a N c w.heap.size _ wr HO.out HMX.out).mono ?_
      rintro e2 w1 ⟨rfl, o1, b1⟩
      have HB1 := hid (b1.below HBwr.out HBwr.out.size (fun b hb => by have := HO.out.lt b (by simpa using hb); omega))
      have HO1 := hid o1
      clear b1 o1
      go_wp2_with fail
      go_returns
      exact ⟨_, rfl, by have := HO1.out; simpa using this, HB1.out⟩
end Go.Proofs.YtkakoiaahgchmaaDoor
namespace Go.Proofs.YtkakoiaahgchmaaDoor
set_option maxRecDepth 100000
open Go.ChangeShapes Go.WideShapes Go.ChangeAt Go.RowKit
theorem trailF_len : ∀ (l : List StepT) (x : List Int), Dg x → (∀ y ∈ l, Dg y.1) → ∀ t ∈ trailF x l, t.length = 65 := by
  intro l
  induction l with
  | nil => intro x _ _ t ht; cases ht
  | cons y l ih =>
    intro x hx hl t ht
    have hy : Dg y.1 := hl y (by simp)
    have hn : ∀ a b : List Int, Dg a → Dg b → (nodeX a b).length = 65 := fun a b ha hb => by simp [nodeX, ha.len, hb.len]
    rcases List.mem_cons.1 (show t ∈ (if y.2 then nodeX y.1 x else nodeX x y.1) :: trailF (if y.2 then nodeL y.1 x else nodeL x y.1) l from ht) with h | h
    · rw [h]
      split
      · exact hn _ _ hy hx
      · exact hn _ _ hx hy
    · refine ih _ ?_ (fun z hz => hl z (by simp [hz])) t h
      split
      · exact Dg.nodeL _ _
      · exact Dg.nodeL _ _
/-- The trail of a text. -/
def textT (m : List Int) (n i : Nat) (ds : List (List Int)) : List (List Int) := ((0 :: m) :: trailF (leafL m) (ds.zip (sidesF n n i).reverse)).reverse
theorem textT_small {m : List Int} {n i : Nat} {ds : List (List Int)} (hd : ∀ d ∈ ds, Dg d) : ∀ t ∈ textT m n i ds, t.length ≤ m.length + 65 := fun t ht => by
  unfold textT at ht
  rcases List.mem_cons.1 (List.mem_reverse.1 ht) with h | h
  · rw [h]; simp
  · rw [trailF_len _ _ (Dg.leafL m) (fun y hy => hd _ (List.of_mem_zip (a := y.1) (b := y.2) hy).1) t h]; omega
/-- Does a way hold a text at a place of a log with that root? -/
def isHold (root : List Int) (n i : Int) (m : List Int) (ds : List (List Int)) : Bool :=
  decide (1 ≤ n ∧ n ≤ 200 ∧ 0 ≤ i ∧ i < n) && (decide (ds.length = (sidesF n.toNat n.toNat i.toNat).length) && decide (topF (leafL m) (ds.zip (sidesF n.toNat n.toNat i.toNat).reverse) = root))
set_option maxHeartbeats 4000000 in
theorem textTrail_good (n i : Nat) (a : Option Addr) (nt c : Nat) (t : List Int) (ya : Option Addr) (yn yc : Nat) (ds : List (List Int)) (w : World) (hn1 : 1 ≤ n) (hn2 : n ≤ 200) (hin : i < n) (hT : TextAt w a nt c t) (hnt : nt ≤ 1000) (hW : DigsAt w ya yn yc ds) (hyn : yn ≤ 300) (hl : ds.length = (sidesF n n i).length) (tab : ShaTab w) :
    Calls Tryd.prog 14 #[.int .i64 n, .int .i64 i, .slice a nt c, .slice ya yn yc] w fun e w' => ∃ v, e = .returned v ∧ ∃ Sx base, w.heap.size ≤ base ∧ OwnR w' Sx base v (textT t n i ds) ∧ Below w.heap.size w w' := by
  have Hb := hid (Below.refl w.heap.size w)
  have Htab := hid tab
  clear  tab 
  have HT := hid hT
  have HW := hid hW
  have HL := hid (Dg.leafL t)
  have hyl := hW.length
  have h0 : ¬ (i : Int) < 0 := by omega
  have h1 : ¬ (n : Int) < 1 := by omega
  have h2 : ¬ (200 : Int) < n := by omega
  have h3 : ¬ (n : Int) ≤ i := by omega
  have HSD := hid (textSides_any n i)
  have hrl : (sidesF n n i).reverse.length = yn := by rw [List.length_reverse]; omega
  clear hT hW
  go_enter Tryd.func14, Tryd.ntmps14
  go_wp2_with fail
  refine (HSD.out _ (by omega) (by omega) (by omega)).mono ?_
  rintro e w1 ⟨v1, rfl, o1, b1⟩
  obtain ⟨ga, gc, rfl, hg1⟩ := BoolsAt.of_own o1
  rw [hrl] at hg1 ⊢
  have HG := hid hg1
  have HB1 := hid (Below.on Hb.out b1)
  clear o1 b1 hg1
  go_wp2_with fail
  refine (loleaf_any a nt c t _ (HT.out.below HB1.out) (by omega) (Htab.out.below HB1.out)).mono ?_
  rintro e w2 ⟨rfl, b2⟩
  have HB2 := hid (Below.on HB1.out b2)
  have HG2 := hid (HG.out.below b2)
  clear b2
  go_wp2_with fail
  have HBA := hid (HB2.out.alloc HB2.out.size (.cells #[.slice a nt c] 29 (0, 0)))
  have HGA := hid (HG2.out.below ((Below.refl _ _).alloc (Nat.le_refl _) (.cells #[.slice a nt c] 29 (0, 0))))
  have HS := hid (TextsAt.of_blk (n := 1) (cap := 1) (ts := [t]) (Blk.new (w := w2) rfl #[.slice a nt c] 29) rfl (Nat.le_refl _) (by omega) fun j hj => by
    match j, hj with
    | 0, _ => exact ⟨_, _, _, rfl, HT.out.below HBA.out⟩)
  refine (joined_any 0 _ _ _ [t] _ (by omega) HS.out (by simp only [sumLen, List.map_cons, List.map_nil, List.sum_cons, List.sum_nil]; have := HT.out.length; omega)).mono ?_
  rintro e w8 ⟨v8, rfl, b8, o8⟩
  have HB8 := hid (Below.on HBA.out b8)
  have HG8 := hid (HGA.out.below b8)
  have hs8 := b8.size
  obtain ⟨a8, c8, rfl, q1, q2⟩ := o8.text2
  rw [show ([0] : List Int) ++ ([t] : List (List Int)).flatten = 0 :: t by simp] at q1 ⊢
  obtain ⟨p8, rfl, hp8⟩ := q1.some_ (by simp)
  obtain ⟨N8, hN8⟩ : ∃ N, N = (0 :: t).length := ⟨_, rfl⟩
  rw [← hN8] at q1 ⊢
  have HT8 := hid q1
  clear q1 q2 b8 o8 hN8
  go_wp2_with fail
  refine (climbed_text (leafL t) ya yn yc ds ga gc (sidesF n n i).reverse p8 N8 c8 (0 :: t) w8 HL.out (HW.out.below HB8.out) HG8.out (by omega) (Htab.out.below HB8.out) HT8.out hp8).mono ?_
  rintro e w9 ⟨v9, rfl, Sx, base, h1, h2, h3⟩
  have HO9 := hid h2
  have HB9 := hid (Below.on HB8.out h3)
  have h19 := Nat.le_trans HB8.out.size h1
  clear h2 h3 h1
  go_wp2_with fail
  go_returns
  exact ⟨_, rfl, Sx, base, h19, by have := HO9.out; unfold textT; simpa using this, HB9.out⟩
end Go.Proofs.YtkakoiaahgchmaaDoor
namespace Go.Proofs.YtkakoiaahgchmaaDoor
set_option maxRecDepth 100000
open Go.ChangeShapes Go.WideShapes Go.ChangeAt Go.RowKit
/-- From the top on: does the beginning end on the right? And is something cut off? -/
def gsF : Nat → Nat → Nat → Bool → List Bool × Bool
  | 0, _, _, cut => ([], cut)
  | f + 1, m, n, cut => if m = n then ([], cut) else if m ≤ halfN n then (false :: (gsF f m (halfN n) cut).1, (gsF f m (halfN n) cut).2) else (true :: (gsF f (m - halfN n) (n - halfN n) true).1, (gsF f (m - halfN n) (n - halfN n) true).2)
theorem gsF_same (f m : Nat) (cut : Bool) : gsF f m m cut = ([], cut) := by
  cases f with
  | zero => rfl
  | succ f => simp [gsF]
theorem gsF_fuel : ∀ (f g m n : Nat) (cut : Bool), n ≤ f → n ≤ g → 1 ≤ m → m ≤ n → gsF f m n cut = gsF g m n cut := by
  intro f
  induction f with
  | zero => intro g m n cut h1 _ h3 h4; omega
  | succ f ih =>
    intro g m n cut h1 h2 h3 h4
    cases g with
    | zero => omega
    | succ g =>
      unfold gsF
      by_cases hn : m = n
      · rw [if_pos hn, if_pos hn]
      · rw [if_neg hn, if_neg hn]
        have hh := halfN_lt (n := n) (by omega)
        by_cases hi : m ≤ halfN n
        · rw [if_pos hi, if_pos hi, ih g m (halfN n) cut (by omega) (by omega) (by omega) hi]
        · rw [if_neg hi, if_neg hi, ih g (m - halfN n) (n - halfN n) true (by omega) (by omega) (by omega) (by omega)]
theorem gsF_left {m n : Nat} (cut : Bool) (h0 : 1 ≤ m) (h : m < n) (hi : m ≤ halfN n) : gsF n m n cut = (false :: (gsF (halfN n) m (halfN n) cut).1, (gsF (halfN n) m (halfN n) cut).2) := by
  have hh := halfN_lt (n := n) (by omega)
  obtain ⟨k, rfl⟩ : ∃ k, n = k + 1 := ⟨n - 1, by omega⟩
  rw [gsF, if_neg (by omega), if_pos hi, gsF_fuel k (halfN (k + 1)) m (halfN (k + 1)) cut (by omega) (by omega) h0 hi]
theorem gsF_right {m n : Nat} (cut : Bool) (h : m < n) (hi : ¬ m ≤ halfN n) : gsF n m n cut = (true :: (gsF (n - halfN n) (m - halfN n) (n - halfN n) true).1, (gsF (n - halfN n) (m - halfN n) (n - halfN n) true).2) := by
  have hh := halfN_lt (n := n) (by omega)
  obtain ⟨k, rfl⟩ : ∃ k, n = k + 1 := ⟨n - 1, by omega⟩
  rw [gsF, if_neg (by omega), if_neg hi, gsF_fuel k (k + 1 - halfN (k + 1)) (m - halfN (k + 1)) (k + 1 - halfN (k + 1)) true (by omega) (by omega) (by omega) (by omega)]
def oneIf (c : Bool) : Nat := if c then 1 else 0
def startX (A : List Int) (c : Bool) (ds : List (List Int)) : List Int := if c then ds.getD 0 [] else A
def restX (c : Bool) (ds : List (List Int)) : List (List Int) := if c then ds.drop 1 else ds
theorem restX_length (c : Bool) (ds : List (List Int)) : (restX c ds).length = ds.length - oneIf c := by
  cases c <;> simp [restX, oneIf]
theorem restX_getD (c : Bool) (ds : List (List Int)) (k : Nat) : (restX c ds).getD k [] = ds.getD (k + oneIf c) [] := by
  cases c <;> simp [restX, oneIf, List.getD_eq_getElem?_getD]
set_option maxHeartbeats 4000000 in
theorem growSides_any (m n : Nat) (w : World) (hm1 : 1 ≤ m) (hmn : m ≤ n) (hn2 : n ≤ 200) :
    Calls Tryd.prog 46 #[.int .i64 m, .int .i64 n] w fun e w' => ∃ v, e = .returned (.tuple #[v, .bool (gsF n m n false).2]) ∧ OwnV w' w.heap.size 4 v ((gsF n m n false).1.reverse.map Value.bool) ∧ Below w.heap.size w w' := by
  have Hb := hid (Below.refl w.heap.size w)
  obtain ⟨i0, hi0, hz0, hz1, hz2⟩ := info_parts info_bool
  have H23 := hid half23_any
  go_enter Tryd.func46, Tryd.ntmps46
  go_wp2_with fail
  go_loopw [0, 1, 6, 7] (fun mv nv sv cv wr => ∃ (p q : Nat) (c : Bool) (acc : List Bool), 1 ≤ p ∧ p ≤ q ∧ q ≤ n ∧ acc.length + q ≤ n ∧ mv = .int .i64 p ∧ nv = .int .i64 q ∧ cv = .bool c ∧ OwnV wr w.heap.size 4 sv (acc.map Value.bool) ∧ acc ++ (gsF q p q c).1 = (gsF n m n false).1 ∧ (gsF q p q c).2 = (gsF n m n false).2 ∧ Below w.heap.size w wr) (fun _ nv _ _ _ => (intOf nv).toNat)
  case atStart => exact ⟨m, n, false, [], hm1, hmn, Nat.le_refl _, by simp, rfl, rfl, rfl, OwnV.nil _ _ _, rfl, rfl, Hb.out⟩
  case round =>
    obtain ⟨p, q, c, acc, hp1, hpq, hqn, hal, rfl, rfl, rfl, hov, hsd, hsc, bel⟩ := hrel
    have HBwr := hid bel
    have HO := hid hov
    have hswr := bel.size
    clear bel hov
    by_cases hp : p < q
    · skip
      have hpi : (p : Int) < (q : Int) := by omega
      have hh := halfN_lt (n := q) (by omega)
      have HSL := hid (fun h => (gsF_left (m := p) (n := q) c hp1 hp h))
      have HSR := hid (fun h => (gsF_right (m := p) (n := q) c hp h))
      have HSD := hid hsd
      have HSC := hid hsc
      have C23 := hid (fun W : World => H23.out q W (by omega) (by omega))
      clear hsd hsc
      generalize halfN q = K at *
      go_wp2_with fail
      refine (C23.out _).mono ?_
      rintro e w1 ⟨rfl, rfl⟩
      by_cases hq : p ≤ K
      · skip
        cases c with
        | true =>
          have hqi : ¬ (K : Int) < (p : Int) := by omega
          have HK1 := hid (Blk.new (w := w1) (n := w1.heap.size) rfl #[.bool false] 4)
          have HO1 := hid (HO.out.below ((Below.refl _ _).alloc (Nat.le_refl _) (.cells #[.bool false] 4 (0, 0))))
          have HB1 := hid (HBwr.out.alloc HBwr.out.size (.cells #[.bool false] 4 (0, 0)))
          go_wp2_with (
              at_builtin
              refine wpList_append_v rfl _ _ rfl Tryd.underlying76 hi0 hz0 rfl hz1 (by omega) rfl HO1.out rfl HK1.out rfl (by simp; omega) HB1.out.size ?_
              intro v5 w5 own5 b5
              have HO5 := hid own5
              have HB5 := hid (HB1.out.trans b5)
              clear own5 b5)
          exact ⟨⟨p, K, true, acc ++ [false], by omega, by omega, by omega, by simp; omega, by first | rfl | (simp; omega) | simp, by first | rfl | (simp; omega) | simp, rfl, by have := HO5.out; simpa using this, by rw [← HSD.out, HSL.out hq]; simp, by rw [← HSC.out, HSL.out hq], HB5.out⟩, by simp [intOf]; omega⟩
        | false =>
          have hqi : ¬ (K : Int) < (p : Int) := by omega
          have HK1 := hid (Blk.new (w := w1) (n := w1.heap.size) rfl #[.bool false] 4)
          have HO1 := hid (HO.out.below ((Below.refl _ _).alloc (Nat.le_refl _) (.cells #[.bool false] 4 (0, 0))))
          have HB1 := hid (HBwr.out.alloc HBwr.out.size (.cells #[.bool false] 4 (0, 0)))
          go_wp2_with (
              at_builtin
              refine wpList_append_v rfl _ _ rfl Tryd.underlying76 hi0 hz0 rfl hz1 (by omega) rfl HO1.out rfl HK1.out rfl (by simp; omega) HB1.out.size ?_
              intro v5 w5 own5 b5
              have HO5 := hid own5
              have HB5 := hid (HB1.out.trans b5)
              clear own5 b5)
          exact ⟨⟨p, K, false, acc ++ [false], by omega, by omega, by omega, by simp; omega, by first | rfl | (simp; omega) | simp, by first | rfl | (simp; omega) | simp, rfl, by have := HO5.out; simpa using this, by rw [← HSD.out, HSL.out hq]; simp, by rw [← HSC.out, HSL.out hq], HB5.out⟩, by simp [intOf]; omega⟩
      · skip
        cases c with
        | true =>
          have hqi : (K : Int) < (p : Int) := by omega
          obtain ⟨p2, hp2'⟩ : ∃ z, z = p - K := ⟨_, rfl⟩
          obtain ⟨q2, hq2'⟩ : ∃ z, z = q - K := ⟨_, rfl⟩
          have hw1 : wrap64 ((p : Int) - (K : Int)) = (p2 : Int) := by unfold wrap64; omega
          have hw2 : wrap64 ((q : Int) - (K : Int)) = (q2 : Int) := by unfold wrap64; omega
          have HP2 := hid hp2'
          have HQ2 := hid hq2'
          clear hp2' hq2'
          have HK1 := hid (Blk.new (w := w1) (n := w1.heap.size) rfl #[.bool true] 4)
          have HO1 := hid (HO.out.below ((Below.refl _ _).alloc (Nat.le_refl _) (.cells #[.bool true] 4 (0, 0))))
          have HB1 := hid (HBwr.out.alloc HBwr.out.size (.cells #[.bool true] 4 (0, 0)))
          go_wp2_with (
              at_builtin
              refine wpList_append_v rfl _ _ rfl Tryd.underlying76 hi0 hz0 rfl hz1 (by omega) rfl HO1.out rfl HK1.out rfl (by simp; omega) HB1.out.size ?_
              intro v5 w5 own5 b5
              have HO5 := hid own5
              have HB5 := hid (HB1.out.trans b5)
              clear own5 b5)
          have hpp := HP2.out
          have hqq := HQ2.out
          exact ⟨⟨p2, q2, true, acc ++ [true], by omega, by omega, by omega, by simp; omega, by first | rfl | (simp; omega) | simp, by first | rfl | (simp; omega) | simp, rfl, by have := HO5.out; simpa using this, by rw [← HSD.out, HSR.out hq, HP2.out, HQ2.out]; simp, by rw [← HSC.out, HSR.out hq, HP2.out, HQ2.out], HB5.out⟩, by simp [intOf]; omega⟩
        | false =>
          have hqi : (K : Int) < (p : Int) := by omega
          obtain ⟨p2, hp2'⟩ : ∃ z, z = p - K := ⟨_, rfl⟩
          obtain ⟨q2, hq2'⟩ : ∃ z, z = q - K := ⟨_, rfl⟩
          have hw1 : wrap64 ((p : Int) - (K : Int)) = (p2 : Int) := by unfold wrap64; omega
          have hw2 : wrap64 ((q : Int) - (K : Int)) = (q2 : Int) := by unfold wrap64; omega
          have HP2 := hid hp2'
          have HQ2 := hid hq2'
          clear hp2' hq2'
          have HK1 := hid (Blk.new (w := w1) (n := w1.heap.size) rfl #[.bool true] 4)
          have HO1 := hid (HO.out.below ((Below.refl _ _).alloc (Nat.le_refl _) (.cells #[.bool true] 4 (0, 0))))
          have HB1 := hid (HBwr.out.alloc HBwr.out.size (.cells #[.bool true] 4 (0, 0)))
          go_wp2_with (
              at_builtin
              refine wpList_append_v rfl _ _ rfl Tryd.underlying76 hi0 hz0 rfl hz1 (by omega) rfl HO1.out rfl HK1.out rfl (by simp; omega) HB1.out.size ?_
              intro v5 w5 own5 b5
              have HO5 := hid own5
              have HB5 := hid (HB1.out.trans b5)
              clear own5 b5)
          have hpp := HP2.out
          have hqq := HQ2.out
          exact ⟨⟨p2, q2, true, acc ++ [true], by omega, by omega, by omega, by simp; omega, by first | rfl | (simp; omega) | simp, by first | rfl | (simp; omega) | simp, rfl, by have := HO5.out; simpa using this, by rw [← HSD.out, HSR.out hq, HP2.out, HQ2.out]; simp, by rw [← HSC.out, HSR.out hq, HP2.out, HQ2.out], HB5.out⟩, by simp [intOf]; omega⟩
    · skip
      have hpe : p = q := by omega
      subst hpe
      rw [gsF_same] at hsd hsc
      simp only [List.append_nil] at hsd
      have hsc : c = (gsF n m n false).2 := hsc
      subst hsc
      subst hsd
      obtain ⟨a, k, rfl, -⟩ := HO.out.slice
      rw [List.length_map] at HO ⊢
      obtain ⟨N, hN⟩ : ∃ N, N = (gsF n m n false).1.length := ⟨_, rfl⟩
      rw [← hN] at HO ⊢
      have hN1 : N ≤ 200 := by omega
      have HMX := hid (show ((gsF n m n false).1.map Value.bool).length ≤ 1000000000 by rw [List.length_map]; omega)
      clear hN hal
      go_wp2_with fail
      refine (revB_any a N k w.heap.size _ wr HO.out HMX.out).mono ?_
      rintro e2 w1 ⟨rfl, o1, b1⟩
      have HB1 := hid (b1.below HBwr.out HBwr.out.size (fun b hb => by have := HO.out.lt b (by simpa using hb); omega))
      have HO1 := hid o1
      clear b1 o1
      go_wp2_with fail
      go_returns
      exact ⟨_, rfl, by have := HO1.out; simpa using this, HB1.out⟩
end Go.Proofs.YtkakoiaahgchmaaDoor
namespace Go.Proofs.YtkakoiaahgchmaaDoor
set_option maxRecDepth 100000
open Go.ChangeShapes Go.WideShapes Go.ChangeAt Go.RowKit
/-- The trail of a log that grows. -/
def growT (A : List Int) (m n : Nat) (ds : List (List Int)) : List (List Int) := (trailF (startX A (gsF n m n false).2 ds) ((restX (gsF n m n false).2 ds).zip (gsF n m n false).1.reverse)).reverse
/-- Does a log grow so? -/
def isGrow (A : List Int) (m : Int) (B : List Int) (n : Int) (ds : List (List Int)) : Bool :=
  decide (1 ≤ m ∧ m ≤ n ∧ n ≤ 200) && (decide ((groZ n.toNat A m.toNat n.toNat false ds ds.length).2 = 0) && decide ((groZ n.toNat A m.toNat n.toNat false ds ds.length).1.1 = A) && decide ((groZ n.toNat A m.toNat n.toNat false ds ds.length).1.2 = B))
set_option maxHeartbeats 4000000 in
theorem growTrail_plain (A : List Int) (m n : Nat) (ya : Option Addr) (yn yc : Nat) (ds : List (List Int)) (w : World) (hA : Dg A) (hm1 : 1 ≤ m) (hmn : m ≤ n) (hn2 : n ≤ 200) (hW : DigsAt w ya yn yc ds) (hyn : yn ≤ 300) (hl : ds.length = (gsF n m n false).1.length + oneIf (gsF n m n false).2) (tab : ShaTab w) (hcut : (gsF n m n false).2 = false) :
    Calls Tryd.prog 15 #[.agg (A.map (Value.int .u8)).toArray, .int .i64 m, .int .i64 n, .slice ya yn yc] w fun e w' => ∃ v, e = .returned v ∧ ∃ Sx base, w.heap.size ≤ base ∧ OwnR w' Sx base v (growT A m n ds) ∧ Below w.heap.size w w' := by
  have b1 := (Below.refl w.heap.size w).alloc (Nat.le_refl _) (.cells (A.map (Value.int .u8)).toArray 23 (0, 0))
  have b2 := b1.alloc b1.size (.cells (byteCells 32 []) 23 (0, 0))
  have Kz := hid ((Blk.new (w := w) (n := w.heap.size) rfl (A.map (Value.int .u8)).toArray 23).old (.cells (byteCells 32 []) 23 (0, 0)))
  have Kx := hid (Blk.new (w := (w.alloc (.cells (A.map (Value.int .u8)).toArray 23 (0, 0)))) (n := w.heap.size + 1) (by simp only [World.size_alloc]) (byteCells 32 []) 23)
  have Hb := hid b2
  have hbz := b2.size
  have Hbs := hid (show w.heap.size + 1 + 1 = ((w.alloc (.cells (A.map (Value.int .u8)).toArray 23 (0, 0))).alloc (.cells (byteCells 32 []) 23 (0, 0))).heap.size by simp only [World.size_alloc])
  have Htab := hid tab
  clear b1 b2 tab 
  have Kz1 := hid (Blk.new (w := w) (n := w.heap.size) rfl (A.map (Value.int .u8)).toArray 23)
  have HW := hid hW
  have hyl := hW.length
  have h0 : ¬ (m : Int) < 1 := by omega
  have h1 : ¬ (n : Int) < (m : Int) := by omega
  have h2 : ¬ (200 : Int) < n := by omega
  have GS := hid (fun W : World => growSides_any m n W hm1 hmn hn2)
  rw [hcut] at GS hl
  have hrl : (gsF n m n false).1.reverse.length = yn := by rw [List.length_reverse]; simp only [oneIf, Bool.false_eq_true, if_false] at hl; omega
  clear hW
  go_enter Tryd.func15, Tryd.ntmps15
  go_wp2_with (first
     | (refine wpList_load_blk rfl 23 _ rfl (w.heap.size) rfl _ 23 Kz1.out _ Tryd.underlying23 rfl 32 size_digest hA.size ?_)
     | (
        refine wpList_store_blk rfl 23 _ _ rfl (w.heap.size + 1) (A.map (Value.int .u8)).toArray rfl rfl _ 23 Kx.out 32 size_digest zsize hA.size (ints_one _ _) ?_
        intro w1 hbw1 hkw1
        have HBw1 := hid (hbw1.below Hb.out Hb.out.size (by omega))
        have hsw1 := HBw1.out.size
        have Kzw1 := hid (hbw1.blk Kz.out (by have := Kz.out.lt; omega))
        have Kxw1 := hid hkw1
        clear hbw1 hkw1))
  refine (GS.out _).mono ?_
  rintro e w3 ⟨v1, rfl, o1, b1⟩
  obtain ⟨ga, gc, rfl, hg1⟩ := BoolsAt.of_own o1
  rw [hrl] at hg1 ⊢
  have HG := hid hg1
  have HBw3 := hid (Below.on HBw1.out b1)
  have hsw3 := HBw3.out.size
  have Kzw3 := hid (Kzw1.out.below b1)
  have Kxw3 := hid (Kxw1.out.below b1)
  clear o1 b1 hg1
  go_wp2_with (refine wpList_load_blk rfl 23 _ rfl (w.heap.size + 1) rfl _ 23 Kxw3.out _ Tryd.underlying23 rfl 32 size_digest hA.size ?_)
  refine (climbed_nil A ya yn yc ds ga gc (gsF n m n false).1.reverse w3 hA (HW.out.below HBw3.out) HG.out (by omega) (Htab.out.below HBw3.out)).mono ?_
  rintro e w9 ⟨v9, rfl, Sx, base, q1, q2, q3⟩
  have HO9 := hid q2
  have HB9 := hid (Below.on HBw3.out q3)
  have h19 := Nat.le_trans HBw3.out.size q1
  clear q1 q2 q3
  go_wp2_with fail
  go_returns
  exact ⟨_, rfl, Sx, base, h19, by have := HO9.out; unfold growT; rw [hcut]; simpa [startX, restX] using this, HB9.out⟩
set_option maxHeartbeats 4000000 in
theorem growTrail_cut (A : List Int) (m n : Nat) (ya : Option Addr) (yn yc : Nat) (ds : List (List Int)) (w : World) (hA : Dg A) (hm1 : 1 ≤ m) (hmn : m ≤ n) (hn2 : n ≤ 200) (hW : DigsAt w ya yn yc ds) (hyn : yn ≤ 300) (hl : ds.length = (gsF n m n false).1.length + oneIf (gsF n m n false).2) (tab : ShaTab w) (hcut : (gsF n m n false).2 = true) :
    Calls Tryd.prog 15 #[.agg (A.map (Value.int .u8)).toArray, .int .i64 m, .int .i64 n, .slice ya yn yc] w fun e w' => ∃ v, e = .returned v ∧ ∃ Sx base, w.heap.size ≤ base ∧ OwnR w' Sx base v (growT A m n ds) ∧ Below w.heap.size w w' := by
  have b1 := (Below.refl w.heap.size w).alloc (Nat.le_refl _) (.cells (A.map (Value.int .u8)).toArray 23 (0, 0))
  have b2 := b1.alloc b1.size (.cells (byteCells 32 []) 23 (0, 0))
  have Kz := hid ((Blk.new (w := w) (n := w.heap.size) rfl (A.map (Value.int .u8)).toArray 23).old (.cells (byteCells 32 []) 23 (0, 0)))
  have Kx := hid (Blk.new (w := (w.alloc (.cells (A.map (Value.int .u8)).toArray 23 (0, 0)))) (n := w.heap.size + 1) (by simp only [World.size_alloc]) (byteCells 32 []) 23)
  have Hb := hid b2
  have hbz := b2.size
  have Hbs := hid (show w.heap.size + 1 + 1 = ((w.alloc (.cells (A.map (Value.int .u8)).toArray 23 (0, 0))).alloc (.cells (byteCells 32 []) 23 (0, 0))).heap.size by simp only [World.size_alloc])
  have Htab := hid tab
  clear b1 b2 tab 
  have Kz1 := hid (Blk.new (w := w) (n := w.heap.size) rfl (A.map (Value.int .u8)).toArray 23)
  have HW := hid hW
  have hyl := hW.length
  have h0 : ¬ (m : Int) < 1 := by omega
  have h1 : ¬ (n : Int) < (m : Int) := by omega
  have h2 : ¬ (200 : Int) < n := by omega
  have GS := hid (fun W : World => growSides_any m n W hm1 hmn hn2)
  rw [hcut] at GS hl
  have hrl : (gsF n m n false).1.reverse.length = yn - 1 := by rw [List.length_reverse]; simp only [oneIf, if_true] at hl; omega
  have hy1 : 1 ≤ yn := by simp only [oneIf, if_true] at hl; omega
  have hy0 : ¬ (yn : Int) = 0 := by omega
  obtain ⟨g0, go, rfl, hg0, hgc⟩ := hW.at_ (by omega)
  have Hc0 := hid (hgc 0 (by omega))
  have HC := hid (hW.cut 1 yn (by omega) (Nat.le_refl _))
  have HSd := hid (hW.get (show 0 < yn by omega))
  clear hgc
  clear hW
  go_enter Tryd.func15, Tryd.ntmps15
  go_wp2_with (first
     | (refine wpList_load_blk rfl 23 _ rfl (w.heap.size) rfl _ 23 Kz1.out _ Tryd.underlying23 rfl 32 size_digest hA.size ?_)
     | (
        refine wpList_store_blk rfl 23 _ _ rfl (w.heap.size + 1) (A.map (Value.int .u8)).toArray rfl rfl _ 23 Kx.out 32 size_digest zsize hA.size (ints_one _ _) ?_
        intro w1 hbw1 hkw1
        have HBw1 := hid (hbw1.below Hb.out Hb.out.size (by omega))
        have hsw1 := HBw1.out.size
        have Kzw1 := hid (hbw1.blk Kz.out (by have := Kz.out.lt; omega))
        have Kxw1 := hid hkw1
        clear hbw1 hkw1))
  refine (GS.out _).mono ?_
  rintro e w3 ⟨v1, rfl, o1, b1⟩
  obtain ⟨ga, gc, rfl, hg1⟩ := BoolsAt.of_own o1
  have HGN := hid (fun (g : Nat) (hg : ga = some ⟨g, 0, none⟩) => show w.heap.size + 1 < g from by
    obtain ⟨a', c', e', hh, -⟩ := o1.slice
    injection e' with e1 e2 e3
    subst e1
    obtain ⟨g', e4, hg'⟩ := hh _ hg
    cases e4
    have := Kxw1.out.lt
    omega)
  rw [hrl] at hg1 ⊢
  have HG := hid hg1
  have HBw3 := hid (Below.on HBw1.out b1)
  have hsw3 := HBw3.out.size
  have Kzw3 := hid (Kzw1.out.below b1)
  have Kxw3 := hid (Kxw1.out.below b1)
  clear o1 b1 hg1
  go_wp2_with fail
  generalize hS0 : ds.getD 0 [] = S0 at *
  have hwx : w.heap.size + 1 < w3.heap.size := Kxw3.out.lt
  refine FlowB.wp_region_butIn [w.heap.size + 1] (fun wz => Blk wz (w.heap.size + 1) (A.map (Value.int .u8)).toArray 23) 6 [0, 1, 2, 3, 4] [] [(.c 5, [], [])] (by kernel_rfl) (by kernel_rfl) Kxw3.out (fun _ _ h hb => h.below hb) ?_
  apply Exists.intro
  refine ⟨fun w0 hb0 hF0 => ?_, ?_⟩
  · skip
    have yr : ∀ w', (∃ x : Ext w0, w' = x.at_) → w'.rangeAt g0 (go + 0 * 32) (S0.map (Value.int .u8)) := fun w' ⟨x, hx⟩ => by
      rw [hx]
      exact rangeAt_below (w := w0) (fun j v hv => by
        have h1 := HBw3.out
        rw [show w0.cell? ⟨g0, go + 0 * 32 + j, none⟩ = w.cell? ⟨g0, go + 0 * 32 + j, none⟩ from (hb0.below HBw3.out h1.size (by intro b hb; simp only [List.mem_singleton] at hb; omega)).cell (p := ⟨g0, go + 0 * 32 + j, none⟩) hg0]
        exact Hc0.out j v hv) (by have := hb0.size; have := HBw3.out.size; omega) x.same
    simp only [pick, List.getElem?_toArray, List.getElem?_cons_succ, List.getElem?_cons_zero, Option.toList_some, List.cons_append, List.nil_append]
    repeat (first | (go_big_quiet_want; refine quiet_index_digs 24 _ _ rfl Tryd.underlying24 size_digest g0 go yn yc rfl _ _ rfl 0 rfl (by omega) ?_; go_big_quiet_on; simp only [Act.put, List.setIfInBounds_toArray, List.set_cons_zero, List.set_cons_succ]) | (go_big_quiet_want; refine quiet_load_mid 23 _ rfl g0 (go + 0 * 32) rfl _ yr _ Tryd.underlying23 rfl (by rw [List.length_map, HSd.out.len]; exact size_digest) ?_; go_big_quiet_on; simp only [Act.put, List.setIfInBounds_toArray, List.set_cons_zero, List.set_cons_succ]) | (go_big_quiet_want; refine quiet_cut_l _ _ rfl (some ⟨g0, go, none⟩) yn yc 1 _ rfl rfl rfl (by omega) ?_; go_big_quiet_on; simp only [Act.put, List.setIfInBounds_toArray, List.set_cons_zero, List.set_cons_succ]) | go_big_quiet_step (fail))
    exact wpQuiet_nil rfl
  refine FlowB.AlChk.nil ?_
  refine FlowB.Walk.skips rfl (fun wz => Blk wz (w.heap.size + 1) (S0.map (Value.int .u8)).toArray 23) (fun _ _ h hb => h.below hb) rfl (fun w1 hb1 hF1 hG1 => ?_) ?_
  · exact FlowB.store_skips 23 _ _ rfl (w.heap.size + 1) (S0.map (Value.int .u8)).toArray rfl rfl _ 23 hG1 32 size_digest hA.size HSd.out.size (ints_one _ _) (by simp) (fun w2 h2 h3 => h3)
  intro w1 hb1 hF1
  apply Exists.intro
  refine ⟨fun w2 hb2 hF2 => wpQuiet_nil rfl, ?_⟩
  refine FlowB.AlChk.nil ?_
  refine FlowB.Walk.fin fun w4 h4 _ hG4 => ?_
  simp only [List.drop_succ_cons, List.drop_zero]
  have HBw4 := hid (h4.below HBw3.out HBw3.out.size (by intro b hb; simp only [List.mem_singleton] at hb; omega))
  have hsw4 := HBw4.out.size
  have HG4 := hid (show BoolsAt w4 ga (yn - 1) gc (gsF n m n false).1.reverse from by
    obtain ⟨q1, q2, q3 | ⟨g, rfl, q4, q5⟩⟩ := HG.out
    · exact ⟨q1, q2, .inl q3⟩
    · refine ⟨q1, q2, .inr ⟨g, rfl, Nat.lt_of_lt_of_le q4 h4.size, fun j hj => ?_⟩⟩
      rw [← q5 j hj]
      unfold World.cell?
      rw [show w4.heap[g]? = w3.heap[g]? from h4.block g q4 (by simp only [List.mem_singleton]; have := HGN.out g rfl; omega)])
  have Kxw4 := hid hG4
  clear h4 hG4 hb1 hF1
  go_wp2_with (refine wpList_load_blk rfl 23 _ rfl (w.heap.size + 1) rfl _ 23 Kxw4.out _ Tryd.underlying23 rfl 32 size_digest HSd.out.size ?_)
  refine (climbed_nil S0 (cutD (some ⟨g0, go, none⟩) 1 yc) (yn - 1) (yc - 1) ((ds.drop 1).take (yn - 1)) ga gc (gsF n m n false).1.reverse w4 HSd.out (HC.out.below HBw4.out) HG4.out (by omega) (Htab.out.below HBw4.out)).mono ?_
  rintro e w9 ⟨v9, rfl, Sx, base, q1, q2, q3⟩
  have HO9 := hid q2
  have HB9 := hid (Below.on HBw4.out q3)
  have h19 := Nat.le_trans HBw4.out.size q1
  clear q1 q2 q3
  go_wp2_with fail
  go_returns
  exact ⟨_, rfl, Sx, base, h19, by have := HO9.out; unfold growT; rw [hcut]; rw [List.take_of_length_le (by simp; omega)] at this; simpa [startX, restX, hS0, ← List.getD_eq_getElem?_getD] using this, HB9.out⟩
end Go.Proofs.YtkakoiaahgchmaaDoor
namespace Go.Proofs.YtkakoiaahgchmaaDoor
set_option maxRecDepth 100000
open Go.ChangeShapes Go.WideShapes Go.ChangeAt Go.RowKit
/-- A side's cells. -/
def sideC (p : Bool) (c d : List Int) (v : Value) : List Value := .bool p :: (c.map (Value.int .u8) ++ prC d v)
theorem sideC_size {p : Bool} {c d : List Int} {v : Value} (hc : Dg c) (hd : Dg d) : (sideC p c d v).toArray.size = 66 := by simp [sideC, prC, hc.len, hd.len]
theorem size_side : (Tryd.prog.info? 28).map (·.size) = some 66 := by kernel_rfl
theorem sideC_com {p : Bool} {c d : List Int} {v : Value} {w : World} {b : Nat} {T : TypeId} (k : Blk w b (sideC p c d v).toArray T) : w.rangeAt b 1 (c.map (Value.int .u8)) := fun j u hu => by
  have hj : j < c.length := by have := (List.getElem?_eq_some_iff.1 hu).1; simpa using this
  rw [Nat.add_comm, k.cell, List.getElem?_toArray, ← hu]
  unfold sideC
  rw [List.getElem?_cons_succ, List.getElem?_append_left (by simpa using hj)]
theorem sideC_proof {p : Bool} {c d : List Int} {v : Value} {w : World} {b : Nat} {T : TypeId} (hc : Dg c) (k : Blk w b (sideC p c d v).toArray T) : w.rangeAt b 33 (prC d v) := fun j u hu => by
  rw [show 33 + j = (32 + j) + 1 by omega, k.cell, List.getElem?_toArray, ← hu]
  unfold sideC
  rw [List.getElem?_cons_succ, List.getElem?_append_right (by rw [List.length_map, hc.len]; omega), List.length_map, hc.len, show 32 + j - 32 = j by omega]
theorem sideC_known {p : Bool} {c d : List Int} {v : Value} {w : World} {b : Nat} {T : TypeId} (hc : Dg c) (k : Blk w b (sideC p c d v).toArray T) : w.rangeAt b 33 (d.map (Value.int .u8)) := fun j u hu => by
  refine sideC_proof hc k j u ?_
  unfold prC
  rw [List.getElem?_append_left (by have := (List.getElem?_eq_some_iff.1 hu).1; simpa using this)]
  exact hu
theorem sideC_nodes {p : Bool} {c d : List Int} {v : Value} {w : World} {b : Nat} {T : TypeId} (hc : Dg c) (hd : Dg d) (k : Blk w b (sideC p c d v).toArray T) : w.cell? ⟨b, 65, none⟩ = some v := by
  have := sideC_proof hc k 32 v (by simp [prC, hd.len])
  exact this
theorem TextAt.of_rng {w : World} {b o n : Nat} {bs : List Int} (h : w.rangeAt b o (bs.map (Value.int .u8))) (hb : b < w.heap.size) (hn : bs.length = n) (hm : n ≤ 9223372036854775807) (hs : ∀ x ∈ bs, 0 ≤ x ∧ x < 256) : TextAt w (some ⟨b, o, none⟩) n n bs :=
  ⟨hn, Nat.le_refl _, hm, hs, .inr ⟨b, o, none, rfl, fun j hj => ⟨rfl, hb, by rw [h j (.int .u8 (bs.getD j 0)) (by rw [List.getElem?_map, List.getD_eq_getElem?_getD, List.getElem?_eq_getElem (by omega)]; rfl)]⟩⟩⟩
/-- The last text of a trail of a tree. -/
def lastX (p : Bool) (i c : List Int) : List Int := if p then 0 :: (i ++ c) else [2]
def lastD (p : Bool) (i c : List Int) : List Int := if p then leafE i c else emptyL 0
theorem wpList_buildv {P : Program} {ops : Array Oper} {rest : List Oper} {op : Oper} {a : Act} {w : World} {Q : Exit → Act → World → Prop} (hgd : op.guard = none) (t : TypeId) (parts : List (Nat × Operand)) (ho : op.op = .build t parts.toArray) (vs : List (Nat × Value)) (hv : (parts.map fun x => (x.1, a.eval x.2)) = vs) (v : Value) (h : ∀ w', (Instr.build t vs.toArray).run P w' = .ok v w') (hk : wpList P ops Q rest (a.put op.dst v) w) : wpList P ops Q (op :: rest) a w :=
  wpList_plain hgd fun K hK => by
    have hm : (parts.map fun (x : Nat × Operand) => match x with | (i, x) => (i, a.eval x)) = vs := hv
    unfold Oper.wp execOp
    simp only [ho, List.map_toArray, hm, Sem.run_bind, h, Result.andThen_ok, Sem.run_pure, Oper.upon_value]
    exact hK _ _ hk
set_option maxHeartbeats 4000000 in
theorem treeTrail_bad_true (i c d : List Int) (ad : Option Addr) (len cap : Nat) (w : World) (hi : Dg i) (hc : Dg c) (hd : Dg d) (tab : ShaTab w) (hn : ¬ knN d 256 = len) :
    Calls Tryd.prog 10 #[.agg (i.map (Value.int .u8)).toArray, .agg (sideC true c d (.slice ad len cap)).toArray] w fun e w' => e = .returned (.slice none 0 0) ∧ Below w.heap.size w w' := by
  have b1 := (Below.refl w.heap.size w).alloc (Nat.le_refl _) (.cells (i.map (Value.int .u8)).toArray 23 (0, 0))
  have b2 := b1.alloc b1.size (.cells (sideC true c d (.slice ad len cap)).toArray 28 (0, 0))
  have Ki := hid ((Blk.new (w := w) (n := w.heap.size) rfl (i.map (Value.int .u8)).toArray 23).old (.cells (sideC true c d (.slice ad len cap)).toArray 28 (0, 0)))
  have Ks := hid (Blk.new (w := (w.alloc (.cells (i.map (Value.int .u8)).toArray 23 (0, 0)))) (n := w.heap.size + 1) (by simp only [World.size_alloc]) (sideC true c d (.slice ad len cap)).toArray 28)
  have Hb := hid b2
  have hbz := b2.size
  have Hbs := hid (show w.heap.size + 1 + 1 = ((w.alloc (.cells (i.map (Value.int .u8)).toArray 23 (0, 0))).alloc (.cells (sideC true c d (.slice ad len cap)).toArray 28 (0, 0))).heap.size by simp only [World.size_alloc])
  have Htab := hid tab
  clear b1 b2 tab 
  have HI := hid hi
  have HC := hid hc
  have HDd := hid hd
  have HE0 := hid (Dg.emptyL 0)
  have cp : ((w.alloc (.cells (i.map (Value.int .u8)).toArray 23 (0, 0))).alloc (.cells (sideC true c d (.slice ad len cap)).toArray 28 (0, 0))).cell? ⟨w.heap.size + 1, 0, none⟩ = some (.bool true) := by rw [Ks.out.cell]; rfl
  go_enter Tryd.func10, Tryd.ntmps10
  go_wp2_with fail
  refine (empty_any _ (Htab.out.below Hb.out)).mono ?_
  rintro e wa ⟨rfl, b1, kg⟩
  obtain ⟨g, hg⟩ : ∃ g, g = ((w.alloc (.cells (i.map (Value.int .u8)).toArray 23 (0, 0))).alloc (.cells (sideC true c d (.slice ad len cap)).toArray 28 (0, 0))).heap.size := ⟨_, rfl⟩
  rw [← hg] at kg ⊢
  have hgl := kg.lt
  have HG := hid (dig_rng kg (empN_each 257) (show 0 < (empN 257).length by rw [empN_length]; omega))
  rw [empN_get (show 0 < 257 by omega)] at HG
  clear kg hg
  have HBwa := hid (Below.on Hb.out b1)
  have hswa := HBwa.out.size
  have Kiwa := hid (Ki.out.below b1)
  have Kswa := hid (Ks.out.below b1)
  clear b1
  go_wp2_with (first
     | (refine wpList_index_digs rfl 24 _ _ rfl Tryd.underlying24 size_digest g 0 257 257 rfl _ _ rfl 0 rfl (by omega) ?_)
     | (refine wpList_load_mid rfl 23 _ rfl g (0 + 0 * 32) rfl _ _ HG.out Tryd.underlying23 rfl (by rw [List.length_map, HE0.out.len]; exact size_digest) ?_)
     | (
      refine wpList_store_blk rfl 23 _ _ rfl (wa.heap.size + 1) ((emptyL 0).map (Value.int .u8)).toArray rfl rfl _ 23 (Blk.new (w := (wa.alloc (.cells #[.int .u8 2] 5 (0, 0)))) (n := wa.heap.size + 1) (by simp only [World.size_alloc]) (byteCells 32 []) 23) 32 size_digest zsize HE0.out.size (ints_one _ _) ?_
      intro w2 hb2 hk2
      have hb2b := hb2.below (((Below.refl wa.heap.size wa).alloc (Nat.le_refl _) (.cells #[.int .u8 2] 5 (0, 0))).alloc (by simp only [World.size_alloc]; omega) (.cells (byteCells 32 []) 23 (0, 0))) (by simp only [World.size_alloc]; omega) (by omega)
      have HBw2 := hid (Below.on HBwa.out hb2b)
      have hsw2 := HBw2.out.size
      have hs12 : wa.heap.size + 1 + 1 ≤ w2.heap.size := by have := hb2.size; simp only [World.size_alloc] at this; omega
      have Kiw2 := hid (Kiwa.out.below hb2b)
      have Ksw2 := hid (Kswa.out.below hb2b)
      have Ktw2 := hid (hb2.blk ((Blk.new (w := wa) (n := wa.heap.size) rfl #[.int .u8 2] 5).old (.cells (byteCells 32 []) 23 (0, 0))) (by omega))
      have Kxw2 := hid hk2
      have hw1l : w.heap.size + 1 < wa.heap.size := Kswa.out.lt
      have cp2 : w2.cell? ⟨w.heap.size + 1, 0, none⟩ = some (.bool true) := by rw [Ksw2.out.cell]; rfl
      clear hb2 hk2 hb2b)
     | (refine wpList_load_blk rfl 23 _ rfl (w.heap.size) rfl _ 23 Kiw2.out _ Tryd.underlying23 rfl 32 size_digest hi.size ?_)
     | (refine wpList_load_mid rfl 23 _ rfl (w.heap.size + 1) 1 rfl _ _ (sideC_com Ksw2.out) Tryd.underlying23 rfl (by rw [List.length_map, hc.len]; exact size_digest) ?_)
     | (refine wpList_buildv rfl 64 _ rfl [(0, (.agg (i.map (Value.int .u8)).toArray)), (1, (.agg (c.map (Value.int .u8)).toArray))] rfl _ (run_build_ent hi hc) ?_))
  have HLf := hid (Dg.leafE i c)
  refine (leaf_any i c _ hi hc (Htab.out.below HBw2.out)).mono ?_
  rintro e w3 ⟨rfl, bw3⟩
  have HBw3 := hid (Below.on HBw2.out bw3)
  have hsw3 := HBw3.out.size
  have Kiw3 := hid (Kiw2.out.below bw3)
  have Ksw3 := hid (Ksw2.out.below bw3)
  have Ktw3 := hid (Ktw2.out.below bw3)
  have Kxw3 := hid (Kxw2.out.below bw3)
  clear bw3
  go_wp2_with (
        refine wpList_store_blk rfl 23 _ _ rfl (wa.heap.size + 1) ((leafE i c).map (Value.int .u8)).toArray rfl rfl _ 23 Kxw3.out 32 size_digest HE0.out.size HLf.out.size (ints_one _ _) ?_
        intro w4 hbw4 hkw4
        have HBw4 := hid (hbw4.below HBw3.out HBw3.out.size (by omega))
        have hsw4 := HBw4.out.size
        have Kiw4 := hid (hbw4.blk Kiw3.out (by have := Kiw3.out.lt; omega))
        have Ksw4 := hid (hbw4.blk Ksw3.out (by have := Ksw3.out.lt; omega))
        have Ktw4 := hid (hbw4.blk Ktw3.out (by have := Ktw3.out.lt; omega))
        have Kxw4 := hid hkw4
        clear hbw4 hkw4)
  simp only [Act.put]
  refine wp_region_flow 5 [0, 1, 2] [3] [(.b 3, [], []), (.c 4, [], [])] (by kernel_rfl) (by kernel_rfl) ?_
  apply Exists.intro
  refine ⟨fun w0 hb0 hF0 => ?_, ?_⟩
  · skip
    simp only [pick, List.getElem?_toArray, List.getElem?_cons_succ, List.getElem?_cons_zero, Option.toList_some, List.cons_append, List.nil_append]
    repeat (first | go_big_quiet_step (fail))
    exact wpQuiet_nil rfl
  refine AlChk.one rfl (fun b => .slice (some ⟨b, 0, none⟩) 2 2) (.cells #[.slice (some ⟨w.heap.size, 0, none⟩) 32 32, .slice (some ⟨w.heap.size + 1, 1, none⟩) 32 32] 29 (0, 0)) rfl (fun w3 hb3 hF3 => by go_simp) ?_
  refine AlChk.nil ?_
  refine Walk.blk rfl (fun b => .slice (some ⟨b, 0, none⟩) 2 2) (.cells #[.slice (some ⟨w.heap.size, 0, none⟩) 32 32, .slice (some ⟨w.heap.size + 1, 1, none⟩) 32 32] 29 (0, 0)) (by simp) ?_
  intro b9 wz hbz_ hFz hge9 _
  apply Exists.intro
  refine ⟨fun w4 hb4 hF4 => wpQuiet_nil rfl, ?_⟩
  refine AlChk.nil ?_
  refine Walk.call rfl 34 #[.int .u8 0, .slice (some ⟨b9, 0, none⟩) 2 2] (TextV (0 :: (i ++ c))) (fun v w' w'' h k => h.below k) rfl (fun w1 hb1 hF1 => ⟨by go_simp, ?_⟩) ?_
  · have k9 : Blk w1 b9 #[.slice (some ⟨w.heap.size, 0, none⟩) 32 32, .slice (some ⟨w.heap.size + 1, 1, none⟩) 32 32] 29 := hF1.2
    have ki := Kiw4.out.below hb1
    have ks := Ksw4.out.below hb1
    have kc := sideC_com ks
    have hs := joined_any 0 (some ⟨b9, 0, none⟩) 2 2 [i, c] w1 (by omega) (TextsAt.of_blk k9 rfl (Nat.le_refl _) (by omega) fun j hj => by
      match j, hj with
      | 0, _ => exact ⟨_, _, _, rfl, HI.out.text ki⟩
      | 1, _ => exact ⟨_, _, _, rfl, TextAt.of_rng kc ks.lt HC.out.len (by omega) HC.out.small⟩) (by simp only [sumLen, List.map_cons, List.map_nil, List.sum_cons, List.sum_nil, HI.out.len, HC.out.len]; omega)
    refine hs.mono ?_
    rintro e w' ⟨v', rfl, b', ho'⟩
    rw [show ([0] : List Int) ++ ([i, c] : List (List Int)).flatten = 0 :: (i ++ c) by simp] at ho'
    obtain ⟨ta, tc, rfl, q1, -⟩ := ho'.text2
    exact ⟨_, rfl, b', ta, _, tc, rfl, q1⟩
  rintro v1 w1 hb1 hF1 ⟨p6, m6, q6, rfl, _⟩
  apply Exists.intro
  refine ⟨fun w0 hb0 hF0 => wpQuiet_nil rfl, ?_⟩
  refine AlChk.nil ?_
  refine Walk.fin fun w9 h9 hF9 _ => ?_
  simp only [List.drop_succ_cons, List.drop_zero]
  have HF9 := hid hF9
  have HBw9 := hid (Below.on HBw4.out h9)
  have hsw9 := HBw9.out.size
  have Kiw9 := hid (Kiw4.out.below h9)
  have Ksw9 := hid (Ksw4.out.below h9)
  have Ktw9 := hid (Ktw4.out.below h9)
  have Kxw9 := hid (Kxw4.out.below h9)
  clear h9 hF9
  go_wp2_with (first
     | (refine wpList_load_blk rfl 23 _ rfl (wa.heap.size + 1) rfl _ 23 Kxw9.out _ Tryd.underlying23 rfl 32 size_digest HLf.out.size ?_)
     | (refine wpList_load_blk rfl 23 _ rfl (w.heap.size) rfl _ 23 Kiw9.out _ Tryd.underlying23 rfl 32 size_digest hi.size ?_)
     | (refine wpList_load_mid rfl 26 _ rfl (w.heap.size + 1) 33 rfl _ _ (sideC_proof hc Ksw9.out) Tryd.underlying26 rfl (by rw [show (prC d (.slice ad len cap)).length = 33 by simp [prC, hd.len]]; exact size_proof) ?_))
  refine (climb_bad (leafE i c) i d ad len cap _ hd hn).mono ?_
  rintro e w5 ⟨rfl, bw5⟩
  have HBw5 := hid (Below.on HBw9.out bw5)
  have hsw5 := HBw5.out.size
  have Kiw5 := hid (Kiw9.out.below bw5)
  have Ksw5 := hid (Ksw9.out.below bw5)
  have Ktw5 := hid (Ktw9.out.below bw5)
  have Kxw5 := hid (Kxw9.out.below bw5)
  clear bw5
  go_wp2_with (
        refine wpList_store_blk rfl 23 _ _ rfl (w5.heap.size) (zD.map (Value.int .u8)).toArray rfl rfl _ 23 (Blk.new rfl (byteCells 32 []) _) 32 size_digest zsize Dg.zero.size (ints_one _ _) ?_
        intro w6 hbw6 hkw6
        have hw6 := hbw6.below ((Below.refl w5.heap.size w5).alloc (Nat.le_refl _) _) (by simp only [World.size_alloc]; omega) (Nat.le_refl _)
        have HBw6 := hid (Below.on HBw5.out hw6)
        have hsw6 := HBw6.out.size
        have Kiw6 := hid (Kiw5.out.below hw6)
        have hliw6 := Kiw5.out.lt
        have Ksw6 := hid (Ksw5.out.below hw6)
        have hlsw6 := Ksw5.out.lt
        have Ktw6 := hid (Ktw5.out.below hw6)
        have hltw6 := Ktw5.out.lt
        have Kxw6 := hid (Kxw5.out.below hw6)
        have hlxw6 := Kxw5.out.lt
        have Kyw6 := hid hkw6
        have hfw6 : w.heap.size ≤ w5.heap.size := HBw5.out.size
        clear hbw6 hkw6 hw6)
  go_returns
  exact ⟨rfl, HBw6.out⟩
set_option maxHeartbeats 4000000 in
theorem treeTrail_bad_false (i c d : List Int) (ad : Option Addr) (len cap : Nat) (w : World) (hi : Dg i) (hc : Dg c) (hd : Dg d) (tab : ShaTab w) (hn : ¬ knN d 256 = len) :
    Calls Tryd.prog 10 #[.agg (i.map (Value.int .u8)).toArray, .agg (sideC false c d (.slice ad len cap)).toArray] w fun e w' => e = .returned (.slice none 0 0) ∧ Below w.heap.size w w' := by
  have b1 := (Below.refl w.heap.size w).alloc (Nat.le_refl _) (.cells (i.map (Value.int .u8)).toArray 23 (0, 0))
  have b2 := b1.alloc b1.size (.cells (sideC false c d (.slice ad len cap)).toArray 28 (0, 0))
  have Ki := hid ((Blk.new (w := w) (n := w.heap.size) rfl (i.map (Value.int .u8)).toArray 23).old (.cells (sideC false c d (.slice ad len cap)).toArray 28 (0, 0)))
  have Ks := hid (Blk.new (w := (w.alloc (.cells (i.map (Value.int .u8)).toArray 23 (0, 0)))) (n := w.heap.size + 1) (by simp only [World.size_alloc]) (sideC false c d (.slice ad len cap)).toArray 28)
  have Hb := hid b2
  have hbz := b2.size
  have Hbs := hid (show w.heap.size + 1 + 1 = ((w.alloc (.cells (i.map (Value.int .u8)).toArray 23 (0, 0))).alloc (.cells (sideC false c d (.slice ad len cap)).toArray 28 (0, 0))).heap.size by simp only [World.size_alloc])
  have Htab := hid tab
  clear b1 b2 tab 
  have HI := hid hi
  have HC := hid hc
  have HDd := hid hd
  have HE0 := hid (Dg.emptyL 0)
  have cp : ((w.alloc (.cells (i.map (Value.int .u8)).toArray 23 (0, 0))).alloc (.cells (sideC false c d (.slice ad len cap)).toArray 28 (0, 0))).cell? ⟨w.heap.size + 1, 0, none⟩ = some (.bool false) := by rw [Ks.out.cell]; rfl
  go_enter Tryd.func10, Tryd.ntmps10
  go_wp2_with fail
  refine (empty_any _ (Htab.out.below Hb.out)).mono ?_
  rintro e wa ⟨rfl, b1, kg⟩
  obtain ⟨g, hg⟩ : ∃ g, g = ((w.alloc (.cells (i.map (Value.int .u8)).toArray 23 (0, 0))).alloc (.cells (sideC false c d (.slice ad len cap)).toArray 28 (0, 0))).heap.size := ⟨_, rfl⟩
  rw [← hg] at kg ⊢
  have hgl := kg.lt
  have HG := hid (dig_rng kg (empN_each 257) (show 0 < (empN 257).length by rw [empN_length]; omega))
  rw [empN_get (show 0 < 257 by omega)] at HG
  clear kg hg
  have HBwa := hid (Below.on Hb.out b1)
  have hswa := HBwa.out.size
  have Kiwa := hid (Ki.out.below b1)
  have Kswa := hid (Ks.out.below b1)
  clear b1
  go_wp2_with (first
     | (refine wpList_index_digs rfl 24 _ _ rfl Tryd.underlying24 size_digest g 0 257 257 rfl _ _ rfl 0 rfl (by omega) ?_)
     | (refine wpList_load_mid rfl 23 _ rfl g (0 + 0 * 32) rfl _ _ HG.out Tryd.underlying23 rfl (by rw [List.length_map, HE0.out.len]; exact size_digest) ?_)
     | (
      refine wpList_store_blk rfl 23 _ _ rfl (wa.heap.size + 1) ((emptyL 0).map (Value.int .u8)).toArray rfl rfl _ 23 (Blk.new (w := (wa.alloc (.cells #[.int .u8 2] 5 (0, 0)))) (n := wa.heap.size + 1) (by simp only [World.size_alloc]) (byteCells 32 []) 23) 32 size_digest zsize HE0.out.size (ints_one _ _) ?_
      intro w2 hb2 hk2
      have hb2b := hb2.below (((Below.refl wa.heap.size wa).alloc (Nat.le_refl _) (.cells #[.int .u8 2] 5 (0, 0))).alloc (by simp only [World.size_alloc]; omega) (.cells (byteCells 32 []) 23 (0, 0))) (by simp only [World.size_alloc]; omega) (by omega)
      have HBw2 := hid (Below.on HBwa.out hb2b)
      have hsw2 := HBw2.out.size
      have hs12 : wa.heap.size + 1 + 1 ≤ w2.heap.size := by have := hb2.size; simp only [World.size_alloc] at this; omega
      have Kiw2 := hid (Kiwa.out.below hb2b)
      have Ksw2 := hid (Kswa.out.below hb2b)
      have Ktw2 := hid (hb2.blk ((Blk.new (w := wa) (n := wa.heap.size) rfl #[.int .u8 2] 5).old (.cells (byteCells 32 []) 23 (0, 0))) (by omega))
      have Kxw2 := hid hk2
      have hw1l : w.heap.size + 1 < wa.heap.size := Kswa.out.lt
      have cp2 : w2.cell? ⟨w.heap.size + 1, 0, none⟩ = some (.bool false) := by rw [Ksw2.out.cell]; rfl
      clear hb2 hk2 hb2b)
     | (refine wpList_load_blk rfl 23 _ rfl (wa.heap.size + 1) rfl _ 23 Kxw2.out _ Tryd.underlying23 rfl 32 size_digest HE0.out.size ?_)
     | (refine wpList_load_blk rfl 23 _ rfl (w.heap.size) rfl _ 23 Kiw2.out _ Tryd.underlying23 rfl 32 size_digest hi.size ?_)
     | (refine wpList_load_mid rfl 26 _ rfl (w.heap.size + 1) 33 rfl _ _ (sideC_proof hc Ksw2.out) Tryd.underlying26 rfl (by rw [show (prC d (.slice ad len cap)).length = 33 by simp [prC, hd.len]]; exact size_proof) ?_))
  refine (climb_bad (emptyL 0) i d ad len cap _ hd hn).mono ?_
  rintro e w3 ⟨rfl, bw3⟩
  have HBw3 := hid (Below.on HBw2.out bw3)
  have hsw3 := HBw3.out.size
  have Kiw3 := hid (Kiw2.out.below bw3)
  have Ksw3 := hid (Ksw2.out.below bw3)
  have Ktw3 := hid (Ktw2.out.below bw3)
  have Kxw3 := hid (Kxw2.out.below bw3)
  clear bw3
  go_wp2_with (
        refine wpList_store_blk rfl 23 _ _ rfl (w3.heap.size) (zD.map (Value.int .u8)).toArray rfl rfl _ 23 (Blk.new rfl (byteCells 32 []) _) 32 size_digest zsize Dg.zero.size (ints_one _ _) ?_
        intro w4 hbw4 hkw4
        have hw4 := hbw4.below ((Below.refl w3.heap.size w3).alloc (Nat.le_refl _) _) (by simp only [World.size_alloc]; omega) (Nat.le_refl _)
        have HBw4 := hid (Below.on HBw3.out hw4)
        have hsw4 := HBw4.out.size
        have Kiw4 := hid (Kiw3.out.below hw4)
        have hliw4 := Kiw3.out.lt
        have Ksw4 := hid (Ksw3.out.below hw4)
        have hlsw4 := Ksw3.out.lt
        have Ktw4 := hid (Ktw3.out.below hw4)
        have hltw4 := Ktw3.out.lt
        have Kxw4 := hid (Kxw3.out.below hw4)
        have hlxw4 := Kxw3.out.lt
        have Kyw4 := hid hkw4
        have hfw4 : w.heap.size ≤ w3.heap.size := HBw3.out.size
        clear hbw4 hkw4 hw4)
  go_returns
  exact ⟨rfl, HBw4.out⟩
end Go.Proofs.YtkakoiaahgchmaaDoor
namespace Go.Proofs.YtkakoiaahgchmaaDoor
set_option maxRecDepth 100000
open Go.ChangeShapes Go.WideShapes Go.ChangeAt Go.RowKit
/-- The siblings, from the lowest on, with the sides. -/
def treeS (i d : List Int) (ns : List (List Int)) (k : Nat) : List StepT := (List.range k).map fun j => (sibL d ns j, decide (bitL i j = 1))
theorem treeS_succ (i d : List Int) (ns : List (List Int)) (k : Nat) : treeS i d ns (k + 1) = treeS i d ns k ++ [(sibL d ns k, decide (bitL i k = 1))] := by simp [treeS, List.range_succ]
theorem treeS_length (i d : List Int) (ns : List (List Int)) (k : Nat) : (treeS i d ns k).length = k := by simp [treeS]
theorem topF_tree (i d : List Int) (ns : List (List Int)) (x : List Int) (k : Nat) : topF x (treeS i d ns k) = climbK d i ns x k := by
  induction k with
  | zero => rfl
  | succ k ih =>
    rw [treeS_succ, topF_snoc, ih]
    show _ = stepL i k (climbK d i ns x k) (sibL d ns k)
    unfold stepL
    rcases bitL_two i k with h | h
    · rw [h]; simp
    · rw [h]; simp
theorem up_both (b : Bool) (x s : List Int) (bx bt base : Nat) (v : Value) (ts : List (List Int)) (w : World) (hX : Dg x) (hs : Dg s) (kx : Blk w bx (x.map (Value.int .u8)).toArray 23) (kt : Blk w bt #[v] 31) (ho : OwnR w [bx, bt] base v ts) (hbx : bx < base) (hbt : bt < base) (hne : bx ≠ bt) (hbase : base ≤ w.heap.size) (hl : ts.length ≤ 1000) (hgx : tabLow bx) (hgt : tabLow bt) (hgb_ : tabLow base) (tab : ShaTab w) :
    Calls Tryd.prog 63 #[.agg (s.map (Value.int .u8)).toArray, .bool b, .pointer (some ⟨bx, 0, none⟩), .pointer (some ⟨bt, 0, none⟩)] w fun e w' => e = .returned (.tuple #[]) ∧ ∃ v', Blk w' bx ((if b then nodeL s x else nodeL x s).map (Value.int .u8)).toArray 23 ∧ Blk w' bt #[v'] 31 ∧ OwnR w' [bx, bt] base v' (ts ++ [if b then nodeX s x else nodeX x s]) ∧ FlowB.ButIn (bx :: bt :: v.ownBlock.toList) w w' := by
  cases b with
  | false => exact up_l x s bx bt base v ts w hX hs kx kt ho hbx hbt hne hbase hl hgx hgt hgb_ tab
  | true => exact up_r x s bx bt base v ts w hX hs kx kt ho hbx hbt hne hbase hl hgx hgt hgb_ tab
theorem OwnR.not_dig {w : World} {S : List Nat} {base g : Nat} {v : Value} {ts : List (List Int)} {cs : Array Value} (h : OwnR w S base v ts) (k : Blk w g cs 23) : g ∉ v.ownBlock.toList := fun hm => by
  obtain ⟨xs, ⟨⟨-, ⟨rfl, -⟩ | ⟨g', cap, cur, rfl, -, hh, -⟩⟩, -⟩, -⟩ := h
  · simp [Value.ownBlock] at hm
  · have e : g = g' := by simpa [Value.ownBlock] using hm
    subst e
    have h1 : w.heap[g]? = some (.cells cur 29 (0, 0)) := hh
    have h2 : w.heap[g]? = some (.cells cs 23 (0, 0)) := k
    rw [h1] at h2
    exact absurd (Obj.cells.inj (Option.some.inj h2)).2.1 (by decide)
set_option maxHeartbeats 4000000 in
theorem treeTrail_good_true (i c d : List Int) (ad : Option Addr) (len cap : Nat) (ns : List (List Int)) (w : World) (hi : Dg i) (hc : Dg c) (hd : Dg d) (hns : DigsAt w ad len cap ns) (tab : ShaTab w) (hn : knN d 256 = len) :
    Calls Tryd.prog 10 #[.agg (i.map (Value.int .u8)).toArray, .agg (sideC true c d (.slice ad len cap)).toArray] w fun e w' => ∃ v, e = .returned v ∧ ∃ Sx base, w.heap.size ≤ base ∧ OwnR w' Sx base v ((lastX true i c) :: trailF (lastD true i c) (treeS i d ns 256)).reverse ∧ Below w.heap.size w w' := by
  have b1 := (Below.refl w.heap.size w).alloc (Nat.le_refl _) (.cells (i.map (Value.int .u8)).toArray 23 (0, 0))
  have HN := hid hns
  have CG := hid (fun (W : World) (h1 : DigsAt W ad len cap ns) (h2 : ShaTab W) => climb_good (leafE i c) i d ad len cap ns W (Dg.leafE i c) hi hd hn h1 h2)
  have HT0 := hid (Dg.climbK (Dg.leafE i c) d i ns 256)
  generalize climbK d i ns (leafE i c) 256 = T0 at CG HT0
  have b2 := b1.alloc b1.size (.cells (sideC true c d (.slice ad len cap)).toArray 28 (0, 0))
  have Ki := hid ((Blk.new (w := w) (n := w.heap.size) rfl (i.map (Value.int .u8)).toArray 23).old (.cells (sideC true c d (.slice ad len cap)).toArray 28 (0, 0)))
  have Ks := hid (Blk.new (w := (w.alloc (.cells (i.map (Value.int .u8)).toArray 23 (0, 0)))) (n := w.heap.size + 1) (by simp only [World.size_alloc]) (sideC true c d (.slice ad len cap)).toArray 28)
  have Hb := hid b2
  have hbz := b2.size
  have Hbs := hid (show w.heap.size + 1 + 1 = ((w.alloc (.cells (i.map (Value.int .u8)).toArray 23 (0, 0))).alloc (.cells (sideC true c d (.slice ad len cap)).toArray 28 (0, 0))).heap.size by simp only [World.size_alloc])
  have Htab := hid tab
  clear b1 b2 tab 
  have HI := hid hi
  have HC := hid hc
  have HDd := hid hd
  have HE0 := hid (Dg.emptyL 0)
  have cp : ((w.alloc (.cells (i.map (Value.int .u8)).toArray 23 (0, 0))).alloc (.cells (sideC true c d (.slice ad len cap)).toArray 28 (0, 0))).cell? ⟨w.heap.size + 1, 0, none⟩ = some (.bool true) := by rw [Ks.out.cell]; rfl
  go_enter Tryd.func10, Tryd.ntmps10
  go_wp2_with fail
  refine (empty_any _ (Htab.out.below Hb.out)).mono ?_
  rintro e wa ⟨rfl, b1, kg⟩
  obtain ⟨g, hg⟩ : ∃ g, g = ((w.alloc (.cells (i.map (Value.int .u8)).toArray 23 (0, 0))).alloc (.cells (sideC true c d (.slice ad len cap)).toArray 28 (0, 0))).heap.size := ⟨_, rfl⟩
  rw [← hg] at kg ⊢
  have hgl := kg.lt
  have HG := hid (dig_rng kg (empN_each 257) (show 0 < (empN 257).length by rw [empN_length]; omega))
  rw [empN_get (show 0 < 257 by omega)] at HG
  clear kg hg
  have HBwa := hid (Below.on Hb.out b1)
  have hswa := HBwa.out.size
  have Kiwa := hid (Ki.out.below b1)
  have Kswa := hid (Ks.out.below b1)
  clear b1
  go_wp2_with (first
     | (refine wpList_index_digs rfl 24 _ _ rfl Tryd.underlying24 size_digest g 0 257 257 rfl _ _ rfl 0 rfl (by omega) ?_)
     | (refine wpList_load_mid rfl 23 _ rfl g (0 + 0 * 32) rfl _ _ HG.out Tryd.underlying23 rfl (by rw [List.length_map, HE0.out.len]; exact size_digest) ?_)
     | (
      refine wpList_store_blk rfl 23 _ _ rfl (wa.heap.size + 1) ((emptyL 0).map (Value.int .u8)).toArray rfl rfl _ 23 (Blk.new (w := (wa.alloc (.cells #[.int .u8 2] 5 (0, 0)))) (n := wa.heap.size + 1) (by simp only [World.size_alloc]) (byteCells 32 []) 23) 32 size_digest zsize HE0.out.size (ints_one _ _) ?_
      intro w2 hb2 hk2
      have hb2b := hb2.below (((Below.refl wa.heap.size wa).alloc (Nat.le_refl _) (.cells #[.int .u8 2] 5 (0, 0))).alloc (by simp only [World.size_alloc]; omega) (.cells (byteCells 32 []) 23 (0, 0))) (by simp only [World.size_alloc]; omega) (by omega)
      have HBw2 := hid (Below.on HBwa.out hb2b)
      have hsw2 := HBw2.out.size
      have hs12 : wa.heap.size + 1 + 1 ≤ w2.heap.size := by have := hb2.size; simp only [World.size_alloc] at this; omega
      have Kiw2 := hid (Kiwa.out.below hb2b)
      have Ksw2 := hid (Kswa.out.below hb2b)
      have Ktw2 := hid (hb2.blk ((Blk.new (w := wa) (n := wa.heap.size) rfl #[.int .u8 2] 5).old (.cells (byteCells 32 []) 23 (0, 0))) (by omega))
      have Kxw2 := hid hk2
      have hw1l : w.heap.size + 1 < wa.heap.size := Kswa.out.lt
      have cp2 : w2.cell? ⟨w.heap.size + 1, 0, none⟩ = some (.bool true) := by rw [Ksw2.out.cell]; rfl
      clear hb2 hk2 hb2b)
     | (refine wpList_load_blk rfl 23 _ rfl (w.heap.size) rfl _ 23 Kiw2.out _ Tryd.underlying23 rfl 32 size_digest hi.size ?_)
     | (refine wpList_load_mid rfl 23 _ rfl (w.heap.size + 1) 1 rfl _ _ (sideC_com Ksw2.out) Tryd.underlying23 rfl (by rw [List.length_map, hc.len]; exact size_digest) ?_)
     | (refine wpList_buildv rfl 64 _ rfl [(0, (.agg (i.map (Value.int .u8)).toArray)), (1, (.agg (c.map (Value.int .u8)).toArray))] rfl _ (run_build_ent hi hc) ?_))
  have HLf := hid (Dg.leafE i c)
  refine (leaf_any i c _ hi hc (Htab.out.below HBw2.out)).mono ?_
  rintro e w3 ⟨rfl, bw3⟩
  have HBw3 := hid (Below.on HBw2.out bw3)
  have hsw3 := HBw3.out.size
  have Kiw3 := hid (Kiw2.out.below bw3)
  have Ksw3 := hid (Ksw2.out.below bw3)
  have Ktw3 := hid (Ktw2.out.below bw3)
  have Kxw3 := hid (Kxw2.out.below bw3)
  clear bw3
  go_wp2_with (
        refine wpList_store_blk rfl 23 _ _ rfl (wa.heap.size + 1) ((leafE i c).map (Value.int .u8)).toArray rfl rfl _ 23 Kxw3.out 32 size_digest HE0.out.size HLf.out.size (ints_one _ _) ?_
        intro w4 hbw4 hkw4
        have HBw4 := hid (hbw4.below HBw3.out HBw3.out.size (by omega))
        have hsw4 := HBw4.out.size
        have Kiw4 := hid (hbw4.blk Kiw3.out (by have := Kiw3.out.lt; omega))
        have Ksw4 := hid (hbw4.blk Ksw3.out (by have := Ksw3.out.lt; omega))
        have Ktw4 := hid (hbw4.blk Ktw3.out (by have := Ktw3.out.lt; omega))
        have Kxw4 := hid hkw4
        clear hbw4 hkw4)
  simp only [Act.put]
  refine wp_region_flow 5 [0, 1, 2] [3] [(.b 3, [], []), (.c 4, [], [])] (by kernel_rfl) (by kernel_rfl) ?_
  apply Exists.intro
  refine ⟨fun w0 hb0 hF0 => ?_, ?_⟩
  · skip
    simp only [pick, List.getElem?_toArray, List.getElem?_cons_succ, List.getElem?_cons_zero, Option.toList_some, List.cons_append, List.nil_append]
    repeat (first | go_big_quiet_step (fail))
    exact wpQuiet_nil rfl
  refine AlChk.one rfl (fun b => .slice (some ⟨b, 0, none⟩) 2 2) (.cells #[.slice (some ⟨w.heap.size, 0, none⟩) 32 32, .slice (some ⟨w.heap.size + 1, 1, none⟩) 32 32] 29 (0, 0)) rfl (fun w3 hb3 hF3 => by go_simp) ?_
  refine AlChk.nil ?_
  refine Walk.blk rfl (fun b => .slice (some ⟨b, 0, none⟩) 2 2) (.cells #[.slice (some ⟨w.heap.size, 0, none⟩) 32 32, .slice (some ⟨w.heap.size + 1, 1, none⟩) 32 32] 29 (0, 0)) (by simp) ?_
  intro b9 wz hbz_ hFz hge9 _
  apply Exists.intro
  refine ⟨fun w4 hb4 hF4 => wpQuiet_nil rfl, ?_⟩
  refine AlChk.nil ?_
  refine Walk.call rfl 34 #[.int .u8 0, .slice (some ⟨b9, 0, none⟩) 2 2] (TextV (0 :: (i ++ c))) (fun v w' w'' h k => h.below k) rfl (fun w1 hb1 hF1 => ⟨by go_simp, ?_⟩) ?_
  · have k9 : Blk w1 b9 #[.slice (some ⟨w.heap.size, 0, none⟩) 32 32, .slice (some ⟨w.heap.size + 1, 1, none⟩) 32 32] 29 := hF1.2
    have ki := Kiw4.out.below hb1
    have ks := Ksw4.out.below hb1
    have kc := sideC_com ks
    have hs := joined_any 0 (some ⟨b9, 0, none⟩) 2 2 [i, c] w1 (by omega) (TextsAt.of_blk k9 rfl (Nat.le_refl _) (by omega) fun j hj => by
      match j, hj with
      | 0, _ => exact ⟨_, _, _, rfl, HI.out.text ki⟩
      | 1, _ => exact ⟨_, _, _, rfl, TextAt.of_rng kc ks.lt HC.out.len (by omega) HC.out.small⟩) (by simp only [sumLen, List.map_cons, List.map_nil, List.sum_cons, List.sum_nil, HI.out.len, HC.out.len]; omega)
    refine hs.mono ?_
    rintro e w' ⟨v', rfl, b', ho'⟩
    rw [show ([0] : List Int) ++ ([i, c] : List (List Int)).flatten = 0 :: (i ++ c) by simp] at ho'
    obtain ⟨ta, tc, rfl, q1, -⟩ := ho'.text2
    exact ⟨_, rfl, b', ta, _, tc, rfl, q1⟩
  rintro v1 w1 hb1 hF1 ⟨p6, m6, q6, rfl, _⟩
  apply Exists.intro
  refine ⟨fun w0 hb0 hF0 => wpQuiet_nil rfl, ?_⟩
  refine AlChk.nil ?_
  refine Walk.fin fun w9 h9 hF9 _ => ?_
  simp only [List.drop_succ_cons, List.drop_zero]
  have HF9 := hid hF9
  have HBw9 := hid (Below.on HBw4.out h9)
  have hsw9 := HBw9.out.size
  have Kiw9 := hid (Kiw4.out.below h9)
  have Ksw9 := hid (Ksw4.out.below h9)
  have Ktw9 := hid (Ktw4.out.below h9)
  have Kxw9 := hid (Kxw4.out.below h9)
  clear h9 hF9
  go_wp2_with (first
     | (refine wpList_load_blk rfl 23 _ rfl (wa.heap.size + 1) rfl _ 23 Kxw9.out _ Tryd.underlying23 rfl 32 size_digest HLf.out.size ?_)
     | (refine wpList_load_blk rfl 23 _ rfl (w.heap.size) rfl _ 23 Kiw9.out _ Tryd.underlying23 rfl 32 size_digest hi.size ?_)
     | (refine wpList_load_mid rfl 26 _ rfl (w.heap.size + 1) 33 rfl _ _ (sideC_proof hc Ksw9.out) Tryd.underlying26 rfl (by rw [show (prC d (.slice ad len cap)).length = 33 by simp [prC, hd.len]]; exact size_proof) ?_))
  obtain ⟨at9, nt9, ct9, he9, ht9⟩ := HF9.out.2
  cases he9
  obtain ⟨tp, rfl, htp9⟩ := ht9.some_ (by rw [← ht9.length]; simp)
  have HTx := hid ht9
  have htp := htp9
  clear ht9 htp9
  refine (CG.out _ (HN.out.below HBw9.out) (Htab.out.below HBw9.out)).mono ?_
  rintro e w5 ⟨rfl, bw5⟩
  have HTxw5 := hid (HTx.out.below bw5)
  have htpw5 := Nat.lt_of_lt_of_le htp bw5.size
  have HBw5 := hid (Below.on HBw9.out bw5)
  have hsw5 := HBw5.out.size
  have Kiw5 := hid (Kiw9.out.below bw5)
  have Ksw5 := hid (Ksw9.out.below bw5)
  have Ktw5 := hid (Ktw9.out.below bw5)
  have Kxw5 := hid (Kxw9.out.below bw5)
  clear bw5
  go_wp2_with (first
     | (
        refine wpList_store_blk rfl 23 _ _ rfl (w5.heap.size) (T0.map (Value.int .u8)).toArray rfl rfl _ 23 (Blk.new rfl (byteCells 32 []) _) 32 size_digest zsize HT0.out.size (ints_one _ _) ?_
        intro w6 hbw6 hkw6
        have hw6 := hbw6.below ((Below.refl w5.heap.size w5).alloc (Nat.le_refl _) _) (by simp only [World.size_alloc]; omega) (Nat.le_refl _)
        have HBw6 := hid (Below.on HBw5.out hw6)
        have hsw6 := HBw6.out.size
        have Kiw6 := hid (Kiw5.out.below hw6)
        have hliw6 := Kiw5.out.lt
        have Ksw6 := hid (Ksw5.out.below hw6)
        have hlsw6 := Ksw5.out.lt
        have Ktw6 := hid (Ktw5.out.below hw6)
        have hltw6 := Ktw5.out.lt
        have Kxw6 := hid (Kxw5.out.below hw6)
        have hlxw6 := Kxw5.out.lt
        have Kyw6 := hid hkw6
        have hfw6 : w.heap.size ≤ w5.heap.size := HBw5.out.size
        have HTxw6 := hid (HTxw5.out.below hw6)
        have htpw6 := Nat.lt_of_lt_of_le htpw5 hw6.size
        clear hbw6 hkw6 hw6)
     | (refine wpList_load_blk rfl 23 _ rfl (wa.heap.size + 1) rfl _ 23 Kxw6.out _ Tryd.underlying23 rfl 32 size_digest HLf.out.size ?_))
  refine (climber_text (leafE i c) (tp) m6 q6 (0 :: (i ++ c)) w6 HTxw6.out htpw6).mono ?_
  rintro e wc ⟨a1, c1, rfl, kx, kt, ho, b1⟩
  obtain ⟨bx, hbx⟩ : ∃ b, b = w6.heap.size := ⟨_, rfl⟩
  obtain ⟨bt, hbt⟩ : ∃ b, b = w6.heap.size + 1 := ⟨_, rfl⟩
  obtain ⟨base, hbase⟩ : ∃ b, b = w6.heap.size + 1 + 1 := ⟨_, rfl⟩
  rw [← hbt, ← hbx]
  rw [← hbase, ← hbt, ← hbx] at ho
  rw [← hbx] at kx
  rw [← hbt] at kt
  have hlt0 : w.heap.size ≤ bx := by have := HBw6.out.size; omega
  have hlt2 : bx < bt := by omega
  have hlt3 : bt < base := by omega
  have hb1 : base ≤ wc.heap.size := by have := kt.lt; omega
  have hlsx : w.heap.size + 1 < bx := by have := Ksw6.out.lt; omega
  clear hbx hbt hbase
  have HBwc := hid (Below.on HBw6.out b1)
  have Kiwc := hid (Kiw6.out.below b1)
  have Kswc := hid (Ksw6.out.below b1)
  have Kx1 := hid kx
  have Kt1 := hid kt
  have HO1 := hid ho
  have hsz1 := ho.size
  have cnn : wc.cell? ⟨w.heap.size + 1, 65, none⟩ = some (.slice ad len cap) := sideC_nodes hc hd Kswc.out
  clear kx kt ho b1
  go_wp2_with fail
  refine (empty_any _ (Htab.out.below HBwc.out)).mono ?_
  rintro e wd ⟨rfl, bd, kg2⟩
  obtain ⟨g2, hg2⟩ : ∃ b, b = wc.heap.size := ⟨_, rfl⟩
  rw [← hg2] at kg2 ⊢
  have hcut : ∀ W' : World, (Instr.slice 24 (.slice (some ⟨g2, 0, none⟩) 257 257) none (some (.int .i64 256)) none).run Tryd.prog W' = .ok (.slice (some ⟨g2, 0, none⟩) 256 257) W' := fun W' => by
    have h := run_cutd_h (P := Tryd.prog) Tryd.underlying24 size_digest (some ⟨g2, 0, none⟩) 257 257 256 W' (by omega) (by omega)
    simpa using h
  have HBwd := hid (Below.on HBwc.out bd)
  have Kiwd := hid (Kiwc.out.below bd)
  have Kswd := hid (Kswc.out.below bd)
  have Kxwd := hid (Kx1.out.below bd)
  have Ktwd := hid (Kt1.out.below bd)
  have HOwd := hid (HO1.out.below bd)
  have Kgwd := hid kg2
  have hgg : base ≤ g2 := by omega
  have hg3 : base ≤ wd.heap.size := Nat.le_trans hb1 bd.size
  have hgt0 : tabLow w.heap.size := ⟨Htab.out.lt, Htab.out.lt0⟩
  clear bd kg2 hg2 cnn
  go_wp2_with fail
  go_loopw [11, 52] (fun rv iv wr => ∃ (k : Nat) (ra : Option Addr), k ≤ 256 ∧ iv = .int .i64 k ∧ rv = .slice ra (len - knN d k) (cap - knN d k) ∧ DigsAt w ra (len - knN d k) (cap - knN d k) (ns.drop (knN d k)) ∧ Blk wr bx ((topF (leafE i c) (treeS i d ns k)).map (Value.int .u8)).toArray 23 ∧ (∃ v, Blk wr bt #[v] 31 ∧ OwnR wr [bx, bt] base v ([(0 :: (i ++ c))] ++ trailF (leafE i c) (treeS i d ns k))) ∧ base ≤ wr.heap.size ∧ Blk wr g2 (dcs (empN 257)) 23 ∧ Blk wr w.heap.size (i.map (Value.int .u8)).toArray 23 ∧ Blk wr (w.heap.size + 1) (sideC true c d (.slice ad len cap)).toArray 28 ∧ Below w.heap.size w wr) (fun _ iv _ => 256 - (intOf iv).toNat)
  case atStart => exact ⟨0, ad, Nat.zero_le _, rfl, rfl, HN.out, Kxwd.out, ⟨_, Ktwd.out, HOwd.out⟩, hg3, Kgwd.out, Kiwd.out, Kswd.out, HBwd.out⟩
  case round =>
    obtain ⟨k, ra, hk, rfl, rfl, hra, kx, ⟨v, kt, ho⟩, hbw, kg, ki, ks, bel⟩ := hrel
    have HRA := hid hra
    have Kxwr := hid kx
    have Ktwr := hid kt
    have HOwr := hid ho
    have Kgwr := hid kg
    have Kiwr := hid ki
    have Kswr := hid ks
    have HBwr := hid bel
    have hswr := bel.size
    have hbxl := kx.lt
    have hbtl := kt.lt
    have hgl := kg.lt
    clear hra kx kt ho kg ki ks bel
    by_cases hcj : k < 256
    · skip
      have hcI : (k : Int) < 256 := by omega
      have HTX := hid (topF_snoc (leafE i c) (treeS i d ns k) (sibL d ns k) (decide (bitL i k = 1)))
      have HRX := hid (trailF_snoc (leafE i c) (treeS i d ns k) (sibL d ns k) (decide (bitL i k = 1)))
      have HTS := hid (treeS_succ i d ns k)
      have htl : (trailF (leafE i c) (treeS i d ns k)).length ≤ 256 := by rw [trailF_length, treeS_length]; omega
      have HXT := hid (Dg.topF (Dg.leafE i c) (treeS i d ns k))
      have HSd := hid (Dg.sibL hn HN.out (k := k) hcj)
      have HEk := hid (Dg.emptyL k)
      have HRG := hid (by have h := dig_rng Kgwr.out (empN_each 257) (j := k) (by rw [empN_length]; omega); rw [empN_get (show k < 257 by omega)] at h; exact h)
      have hsb : sibL d ns k = if knB d k then ns.getD (knN d k) [] else emptyL k := rfl
      have hkb : knB d k = decide (d.getD (k / 8) 0 / 2 ^ (k % 8) % 2 = 1) := rfl
      have hsn : knN d (k + 1) = knN d k + (if knB d k then 1 else 0) := rfl
      have hmn := knN_mono d (show k + 1 ≤ 256 by omega)
      have hxx := dg_at hd (k / 8)
      have hlen := hd.len
      generalize topF (leafE i c) (treeS i d ns k) = xk at *
      generalize trailF (leafE i c) (treeS i d ns k) = tk at *
      generalize emptyL k = ek at *
      have HXE := hid (fun (W : World) (K : Blk W (w.heap.size + 1) (sideC true c d (.slice ad len cap)).toArray 28) => show W.cell? ⟨w.heap.size + 1, 33 + k / 8, none⟩ = some (.int .u8 (d.getD (k / 8) 0)) from sideC_known hc K (k / 8) _ (by rw [List.getElem?_map, List.getD_eq_getElem?_getD, List.getElem?_eq_getElem (by omega)]; rfl))
      have hI0 : ¬ (k : Int) / 8 < 0 := by omega
      have hI1 : ¬ (32 : Int) ≤ (k : Int) / 8 := by omega
      have hI2 : ¬ (k : Int) % 8 < 0 := by omega
      generalize d.getD (k / 8) 0 = xb at *
      have h2 : 0 ≤ xb / 2 ^ (k % 8) ∧ xb / 2 ^ (k % 8) < 256 := ⟨Int.ediv_nonneg hxx.1 (Int.le_of_lt (Int.pow_pos (by omega))), Int.lt_of_le_of_lt (Int.ediv_le_self _ hxx.1) hxx.2⟩
      have hbt8 := and_one' h2
      generalize sibL d ns k = sk at *
      cases hB : knB d k with
      | false =>
        rw [hB] at hkb hsn hsb
        clear hB
        have hc1 : (bits .and .u8 (xb / 2 ^ (k % 8)) 1 == 1) = false := by
          rw [hbt8]
          have := of_decide_eq_false hkb.symm
          simpa using this
        rw [if_neg (by simp)] at hsn hsb
        generalize hq : knN d k = q at *
        have HNq := hid hsn
        have HQ := hid hq
        have HSB := hid hsb
        skip
        clear hbt8 hkb hsn hq hsb h2 hxx
        go_wp2_with (first
           | (refine wpList_index_digs rfl 24 _ _ rfl Tryd.underlying24 size_digest g2 0 256 257 rfl _ _ rfl k rfl (by omega) ?_)
           | (refine wpList_load_mid rfl 23 _ rfl g2 (0 + k * 32) rfl _ _ HRG.out Tryd.underlying23 rfl (by rw [List.length_map, HEk.out.len]; exact size_digest) ?_)
           | (
              refine wpList_store_blk rfl 23 _ _ rfl (wr.heap.size) (ek.map (Value.int .u8)).toArray rfl rfl _ 23 (Blk.new rfl (byteCells 32 []) _) 32 size_digest zsize HEk.out.size (ints_one _ _) ?_
              intro w61 hbw61 hkw61
              have hw61 := hbw61.below ((Below.refl wr.heap.size wr).alloc (Nat.le_refl _) _) (by simp only [World.size_alloc]; omega) (Nat.le_refl _)
              have HBw61 := hid (Below.on HBwr.out hw61)
              have hsw61 := HBw61.out.size
              have Kiw61 := hid (Kiwr.out.below hw61)
              have hliw61 := Kiwr.out.lt
              have Ksw61 := hid (Kswr.out.below hw61)
              have hlsw61 := Kswr.out.lt
              have Kxw61 := hid (Kxwr.out.below hw61)
              have hlxw61 := Kxwr.out.lt
              have Kgw61 := hid (Kgwr.out.below hw61)
              have hlgw61 := Kgwr.out.lt
              have Kqw61 := hid hkw61
              have hfw61 : w.heap.size ≤ wr.heap.size := HBwr.out.size
              have HPw61 := hid hw61
              have Ktw61 := hid (Ktwr.out.below hw61)
              have HOw61 := hid (HOwr.out.below hw61)
              have hbww61 : base ≤ w61.heap.size := Nat.le_trans hbw hw61.size
              have hxe := HXE.out _ Ksw61.out
              clear hbw61 hkw61 hw61))
        have hek : ek = sk := HSB.out.symm
        subst hek
        have hlen2 : ([(0 :: (i ++ c))] ++ tk).length ≤ 1000 := by rw [List.length_append]; simp; omega
        have hfm := HOw61.out.from
        have hfz := HOw61.out.size
        have hngg := HOw61.out.not_dig Kgw61.out
        have hgx : tabLow bx := ⟨by have := hgt0.1; omega, by have := hgt0.2; omega⟩
        have hgt : tabLow bt := ⟨by have := hgt0.1; omega, by have := hgt0.2; omega⟩
        have hgb : tabLow base := ⟨by have := hgt0.1; omega, by have := hgt0.2; omega⟩
        refine FlowB.wp_region_butIn (bx :: bt :: v.ownBlock.toList) (fun wz => Blk wz bx (xk.map (Value.int .u8)).toArray 23 ∧ Blk wz bt #[v] 31 ∧ OwnR wz [bx, bt] base v ([(0 :: (i ++ c))] ++ tk)) 7 [0, 1, 2, 3] [] [(.c 4, [5], []), (.c 6, [], [])] (by kernel_rfl) (by kernel_rfl) ⟨Kxw61.out, Ktw61.out, HOw61.out⟩ (fun _ _ h hb => ⟨h.1.below hb, h.2.1.below hb, h.2.2.below hb⟩) ?_
        apply Exists.intro
        refine ⟨fun w0 hb0 hF0 => ?_, ?_⟩
        · skip
          have hnS : ∀ n, n ≠ bx → n ≠ bt → (∀ g ∈ v.ownBlock.toList, n ≠ g) → n ∉ bx :: bt :: v.ownBlock.toList := fun n h1 h2 h3 hm => by
            rcases List.mem_cons.1 hm with h | hm
            · exact h1 h
            · rcases List.mem_cons.1 hm with h | hm
              · exact h2 h
              · exact h3 n hm rfl
          have x0 : ∀ w', (∃ x : Ext w0, w' = x.at_) → ∃ T, Blk w' wr.heap.size (ek.map (Value.int .u8)).toArray T := fun w' ⟨x, hx⟩ => ⟨_, hx ▸ (hb0.blk Kqw61.out (hnS _ (by omega) (by omega) (fun g hg => by have := HOwr.out.size g hg; omega))).below x.same⟩
          have x1 : ∀ w', (∃ x : Ext w0, w' = x.at_) → ∃ T, Blk w' w.heap.size (i.map (Value.int .u8)).toArray T := fun w' ⟨x, hx⟩ => ⟨_, hx ▸ (hb0.blk Kiw61.out (hnS _ (by omega) (by omega) (fun g hg => by have := hfm g hg; omega))).below x.same⟩
          simp only [pick, List.getElem?_toArray, List.getElem?_cons_succ, List.getElem?_cons_zero, Option.toList_some, List.cons_append, List.nil_append]
          repeat (first | (go_big_quiet_want; refine quiet_load_blk 23 _ rfl (wr.heap.size) rfl _ x0 _ Tryd.underlying23 rfl 32 size_digest HSd.out.size ?_; go_big_quiet_on; simp only [Act.put, List.setIfInBounds_toArray, List.set_cons_zero, List.set_cons_succ]) | (go_big_quiet_want; refine quiet_load_blk 23 _ rfl (w.heap.size) rfl _ x1 _ Tryd.underlying23 rfl 32 size_digest hi.size ?_; go_big_quiet_on; simp only [Act.put, List.setIfInBounds_toArray, List.set_cons_zero, List.set_cons_succ]) | go_big_quiet_step (fail))
          exact wpQuiet_nil rfl
        refine FlowB.AlChk.nil ?_
        refine FlowB.Walk.call rfl 37 #[.agg (i.map (Value.int .u8)).toArray, .int .i64 (k : Int)] (fun v' _ => v' = .int .i64 (bitL i k)) (fun _ wz => Blk wz bx (xk.map (Value.int .u8)).toArray 23 ∧ Blk wz bt #[v] 31 ∧ OwnR wz [bx, bt] base v ([(0 :: (i ++ c))] ++ tk)) (fun _ _ _ _ h _ => h) (fun _ _ _ h hb => ⟨h.1.below hb, h.2.1.below hb, h.2.2.below hb⟩) rfl (fun w1 hb1 hF1 hG1 => ⟨by go_simp, ?_⟩) ?_
        · refine (bit_in i k w1 hi hcj).mono ?_
          rintro e w2 ⟨rfl, b2⟩
          exact ⟨_, rfl, (FlowB.rel_butIn _).of b2, rfl, hG1.1.below b2, hG1.2.1.below b2, hG1.2.2.below b2⟩
        rintro vb w1 hb1 hF1 rfl
        apply Exists.intro
        refine ⟨fun w3 hb3 hF3 => ?_, ?_⟩
        · skip
          simp only [pick, List.getElem?_toArray, List.getElem?_cons_succ, List.getElem?_cons_zero, Option.toList_some, List.cons_append, List.nil_append, Act.put, List.setIfInBounds_toArray, List.set_cons_zero, List.set_cons_succ]
          repeat (first | go_big_quiet_step (fail))
          exact wpQuiet_nil rfl
        refine FlowB.AlChk.nil ?_
        refine FlowB.Walk.call rfl 63 #[.agg (ek.map (Value.int .u8)).toArray, .bool (decide (bitL i k = 1)), .pointer (some ⟨bx, 0, none⟩), .pointer (some ⟨bt, 0, none⟩)] (fun _ _ => True) (fun _ wz => ∃ v', Blk wz bx ((if decide (bitL i k = 1) then nodeL ek xk else nodeL xk ek).map (Value.int .u8)).toArray 23 ∧ Blk wz bt #[v'] 31 ∧ OwnR wz [bx, bt] base v' (([(0 :: (i ++ c))] ++ tk) ++ [if decide (bitL i k = 1) then nodeX ek xk else nodeX xk ek])) (fun _ _ _ _ h _ => h) (fun _ _ _ ⟨v', h1, h2, h3⟩ hb => ⟨v', h1.below hb, h2.below hb, h3.below hb⟩) rfl (fun w1 hb1 hF1 hG1 => ⟨by go_simp; rfl, ?_⟩) ?_
        · refine (up_both _ xk ek bx bt base v ([(0 :: (i ++ c))] ++ tk) w1 HXT.out HSd.out hG1.1 hG1.2.1 hG1.2.2 (by omega) (by omega) (by omega) (Nat.le_trans hbww61 hb1.size) hlen2 hgx hgt hgb (tab_butIn (Htab.out.below HBw61.out) hb1 (tab_all hgx hgt hgb hfm))).mono ?_
          rintro e w2 ⟨rfl, v', q1, q2, q3, q4⟩
          exact ⟨_, rfl, q4, trivial, v', q1, q2, q3⟩
        rintro vr w1 hb1 hF1 _
        apply Exists.intro
        refine ⟨fun w3 hb3 hF3 => wpQuiet_nil rfl, ?_⟩
        refine FlowB.AlChk.nil ?_
        refine FlowB.Walk.fin fun w6 h6 _ hG6 => ?_
        simp only [List.drop_succ_cons, List.drop_zero]
        obtain ⟨v', q1, q2, q3⟩ := hG6
        have hnT : ∀ n, n ≠ bx → n ≠ bt → n ∉ v.ownBlock.toList → n ∉ bx :: bt :: v.ownBlock.toList := fun n h1 h2 h3 hm => by
          rcases List.mem_cons.1 hm with h | hm
          · exact h1 h
          · rcases List.mem_cons.1 hm with h | hm
            · exact h2 h
            · exact h3 hm
        have HB6 := hid (h6.below HBw61.out HBw61.out.size (fun b hb => by
          rcases List.mem_cons.1 hb with h | hb
          · omega
          · rcases List.mem_cons.1 hb with h | hb
            · omega
            · have := hfm b hb; omega))
        have Kg6 := hid (h6.blk Kgw61.out (hnT _ (by omega) (by omega) hngg))
        have Ki6 := hid (h6.blk Kiw61.out (hnT _ (by omega) (by omega) (fun hm => by have := hfm _ hm; omega)))
        have Ks6 := hid (h6.blk Ksw61.out (hnT _ (by omega) (by omega) (fun hm => by have := hfm _ hm; omega)))
        have HQ1 := hid q1
        have HQ2 := hid q2
        have HQ3 := hid q3
        have hs6 := Nat.le_trans hbww61 h6.size
        clear h6 q1 q2 q3 hfm hfz hngg hnT
        go_wp2_with fail
        exact ⟨⟨k + 1, ra, by omega, by first | rfl | simp, by rw [HNq.out]; rfl, by rw [HNq.out]; exact HRA.out, by rw [HTS.out, HTX.out]; exact HQ1.out, ⟨_, HQ2.out, by rw [HTS.out, HRX.out, ← List.append_assoc]; exact HQ3.out⟩, hs6, Kg6.out, Ki6.out, Ks6.out, HB6.out⟩, by simp [intOf]; omega⟩
      | true =>
        rw [hB] at hkb hsn hsb
        clear hB
        have hc1 : (bits .and .u8 (xb / 2 ^ (k % 8)) 1 == 1) = true := by
          rw [hbt8]
          have := of_decide_eq_true hkb.symm
          simpa using this
        rw [if_pos rfl] at hsn hsb
        generalize hq : knN d k = q at *
        have HNq := hid hsn
        have HQ := hid hq
        have HSB := hid hsb
        have hql : q + 1 ≤ len := by omega
        clear hbt8 hkb hsn hq hsb h2 hxx
        obtain ⟨g7, ro, rfl, hg7, hr7⟩ := HRA.out.at_ (by omega)
        have Hr1 := hid (by have h := hr7 0 (by omega); rw [show (ns.drop q).getD 0 [] = ns.getD q [] by simp [List.getD_eq_getElem?_getD], ← HSB.out] at h; exact h)
        have HCO := hid (cut_one HRA.out hql)
        clear hr7
        go_wp2_with (first
           | (refine wpList_index_digs rfl 24 _ _ rfl Tryd.underlying24 size_digest g2 0 256 257 rfl _ _ rfl k rfl (by omega) ?_)
           | (refine wpList_load_mid rfl 23 _ rfl g2 (0 + k * 32) rfl _ _ HRG.out Tryd.underlying23 rfl (by rw [List.length_map, HEk.out.len]; exact size_digest) ?_)
           | (
              refine wpList_store_blk rfl 23 _ _ rfl (wr.heap.size) (ek.map (Value.int .u8)).toArray rfl rfl _ 23 (Blk.new rfl (byteCells 32 []) _) 32 size_digest zsize HEk.out.size (ints_one _ _) ?_
              intro w61 hbw61 hkw61
              have hw61 := hbw61.below ((Below.refl wr.heap.size wr).alloc (Nat.le_refl _) _) (by simp only [World.size_alloc]; omega) (Nat.le_refl _)
              have HBw61 := hid (Below.on HBwr.out hw61)
              have hsw61 := HBw61.out.size
              have Kiw61 := hid (Kiwr.out.below hw61)
              have hliw61 := Kiwr.out.lt
              have Ksw61 := hid (Kswr.out.below hw61)
              have hlsw61 := Kswr.out.lt
              have Kxw61 := hid (Kxwr.out.below hw61)
              have hlxw61 := Kxwr.out.lt
              have Kgw61 := hid (Kgwr.out.below hw61)
              have hlgw61 := Kgwr.out.lt
              have Kqw61 := hid hkw61
              have hfw61 : w.heap.size ≤ wr.heap.size := HBwr.out.size
              have HPw61 := hid hw61
              have Ktw61 := hid (Ktwr.out.below hw61)
              have HOw61 := hid (HOwr.out.below hw61)
              have hbww61 : base ≤ w61.heap.size := Nat.le_trans hbw hw61.size
              have hxe := HXE.out _ Ksw61.out
              clear hbw61 hkw61 hw61))
        refine FlowB.wp_region_butIn [wr.heap.size] (fun wz => Blk wz (wr.heap.size) (ek.map (Value.int .u8)).toArray 23) 6 [0, 1, 2, 3, 4] [] [(.c 5, [], [])] (by kernel_rfl) (by kernel_rfl) Kqw61.out (fun _ _ h hb => h.below hb) ?_
        apply Exists.intro
        refine ⟨fun w0 hb0 hF0 => ?_, ?_⟩
        · skip
          have yr : ∀ w', (∃ x : Ext w0, w' = x.at_) → w'.rangeAt g7 (ro + 0 * 32) (sk.map (Value.int .u8)) := fun w' ⟨x, hx⟩ => by
            rw [hx]
            exact rangeAt_below (w := w0) (fun j v hv => by
              have h1 := HBw61.out
              rw [show w0.cell? ⟨g7, ro + 0 * 32 + j, none⟩ = w.cell? ⟨g7, ro + 0 * 32 + j, none⟩ from (hb0.below HBw61.out h1.size (by intro b hb; simp only [List.mem_singleton] at hb; omega)).cell (p := ⟨g7, ro + 0 * 32 + j, none⟩) hg7]
              exact Hr1.out j v hv) (by have := hb0.size; have := HBw61.out.size; omega) x.same
          simp only [pick, List.getElem?_toArray, List.getElem?_cons_succ, List.getElem?_cons_zero, Option.toList_some, List.cons_append, List.nil_append]
          repeat (first | (go_big_quiet_want; refine quiet_index_digs 24 _ _ rfl Tryd.underlying24 size_digest g7 ro (len - q) (cap - q) rfl _ _ rfl 0 rfl (by omega) ?_; go_big_quiet_on; simp only [Act.put, List.setIfInBounds_toArray, List.set_cons_zero, List.set_cons_succ]) | (go_big_quiet_want; refine quiet_load_mid 23 _ rfl g7 (ro + 0 * 32) rfl _ yr _ Tryd.underlying23 rfl (by rw [List.length_map, HSd.out.len]; exact size_digest) ?_; go_big_quiet_on; simp only [Act.put, List.setIfInBounds_toArray, List.set_cons_zero, List.set_cons_succ]) | (go_big_quiet_want; refine quiet_cut_l _ _ rfl (some ⟨g7, ro, none⟩) (len - q) (cap - q) 1 _ rfl rfl rfl (by omega) ?_; go_big_quiet_on; simp only [Act.put, List.setIfInBounds_toArray, List.set_cons_zero, List.set_cons_succ]) | go_big_quiet_step (fail))
          exact wpQuiet_nil rfl
        refine FlowB.AlChk.nil ?_
        refine FlowB.Walk.skips rfl (fun wz => Blk wz (wr.heap.size) (sk.map (Value.int .u8)).toArray 23) (fun _ _ h hb => h.below hb) rfl (fun w1 hb1 hF1 hG1 => ?_) ?_
        · exact FlowB.store_skips 23 _ _ rfl (wr.heap.size) (sk.map (Value.int .u8)).toArray rfl rfl _ 23 hG1 32 size_digest HEk.out.size HSd.out.size (ints_one _ _) (by simp) (fun w2 h2 h3 => h3)
        intro w1 hb1 hF1
        apply Exists.intro
        refine ⟨fun w2 hb2 hF2 => wpQuiet_nil rfl, ?_⟩
        refine FlowB.AlChk.nil ?_
        refine FlowB.Walk.fin fun wq h4 _ hG4 => ?_
        simp only [List.drop_succ_cons, List.drop_zero]
        have HBwq := hid (h4.below HBw61.out HBw61.out.size (by intro b hb; simp only [List.mem_singleton] at hb; omega))
        have hswq := HBwq.out.size
        have hbwwq : base ≤ wq.heap.size := Nat.le_trans hbww61 h4.size
        have hnz : ∀ n, n < wr.heap.size → n ∉ [wr.heap.size] := fun n hn hm => by simp only [List.mem_singleton] at hm; omega
        have Kxwq := hid (h4.blk Kxw61.out (hnz _ hbxl))
        have Ktwq := hid (h4.blk Ktw61.out (hnz _ hbtl))
        have Kgwq := hid (h4.blk Kgw61.out (hnz _ hgl))
        have Kiwq := hid (h4.blk Kiw61.out (hnz _ (by omega)))
        have Kswq := hid (h4.blk Ksw61.out (hnz _ (by omega)))
        have HOwq := hid (HOwr.out.below (h4.below HPw61.out HPw61.out.size (by intro b hb; simp only [List.mem_singleton] at hb; omega)))
        have Kqwq := hid hG4
        clear h4 hG4 hb1 hF1 hnz
        go_wp2_with fail
        have hlen2 : ([(0 :: (i ++ c))] ++ tk).length ≤ 1000 := by rw [List.length_append]; simp; omega
        have hfm := HOwq.out.from
        have hfz := HOwq.out.size
        have hngg := HOwq.out.not_dig Kgwq.out
        have hgx : tabLow bx := ⟨by have := hgt0.1; omega, by have := hgt0.2; omega⟩
        have hgt : tabLow bt := ⟨by have := hgt0.1; omega, by have := hgt0.2; omega⟩
        have hgb : tabLow base := ⟨by have := hgt0.1; omega, by have := hgt0.2; omega⟩
        refine FlowB.wp_region_butIn (bx :: bt :: v.ownBlock.toList) (fun wz => Blk wz bx (xk.map (Value.int .u8)).toArray 23 ∧ Blk wz bt #[v] 31 ∧ OwnR wz [bx, bt] base v ([(0 :: (i ++ c))] ++ tk)) 7 [0, 1, 2, 3] [] [(.c 4, [5], []), (.c 6, [], [])] (by kernel_rfl) (by kernel_rfl) ⟨Kxwq.out, Ktwq.out, HOwq.out⟩ (fun _ _ h hb => ⟨h.1.below hb, h.2.1.below hb, h.2.2.below hb⟩) ?_
        apply Exists.intro
        refine ⟨fun w0 hb0 hF0 => ?_, ?_⟩
        · skip
          have hnS : ∀ n, n ≠ bx → n ≠ bt → (∀ g ∈ v.ownBlock.toList, n ≠ g) → n ∉ bx :: bt :: v.ownBlock.toList := fun n h1 h2 h3 hm => by
            rcases List.mem_cons.1 hm with h | hm
            · exact h1 h
            · rcases List.mem_cons.1 hm with h | hm
              · exact h2 h
              · exact h3 n hm rfl
          have x0 : ∀ w', (∃ x : Ext w0, w' = x.at_) → ∃ T, Blk w' wr.heap.size (sk.map (Value.int .u8)).toArray T := fun w' ⟨x, hx⟩ => ⟨_, hx ▸ (hb0.blk Kqwq.out (hnS _ (by omega) (by omega) (fun g hg => by have := HOwr.out.size g hg; omega))).below x.same⟩
          have x1 : ∀ w', (∃ x : Ext w0, w' = x.at_) → ∃ T, Blk w' w.heap.size (i.map (Value.int .u8)).toArray T := fun w' ⟨x, hx⟩ => ⟨_, hx ▸ (hb0.blk Kiwq.out (hnS _ (by omega) (by omega) (fun g hg => by have := hfm g hg; omega))).below x.same⟩
          simp only [pick, List.getElem?_toArray, List.getElem?_cons_succ, List.getElem?_cons_zero, Option.toList_some, List.cons_append, List.nil_append]
          repeat (first | (go_big_quiet_want; refine quiet_load_blk 23 _ rfl (wr.heap.size) rfl _ x0 _ Tryd.underlying23 rfl 32 size_digest HSd.out.size ?_; go_big_quiet_on; simp only [Act.put, List.setIfInBounds_toArray, List.set_cons_zero, List.set_cons_succ]) | (go_big_quiet_want; refine quiet_load_blk 23 _ rfl (w.heap.size) rfl _ x1 _ Tryd.underlying23 rfl 32 size_digest hi.size ?_; go_big_quiet_on; simp only [Act.put, List.setIfInBounds_toArray, List.set_cons_zero, List.set_cons_succ]) | go_big_quiet_step (fail))
          exact wpQuiet_nil rfl
        refine FlowB.AlChk.nil ?_
        refine FlowB.Walk.call rfl 37 #[.agg (i.map (Value.int .u8)).toArray, .int .i64 (k : Int)] (fun v' _ => v' = .int .i64 (bitL i k)) (fun _ wz => Blk wz bx (xk.map (Value.int .u8)).toArray 23 ∧ Blk wz bt #[v] 31 ∧ OwnR wz [bx, bt] base v ([(0 :: (i ++ c))] ++ tk)) (fun _ _ _ _ h _ => h) (fun _ _ _ h hb => ⟨h.1.below hb, h.2.1.below hb, h.2.2.below hb⟩) rfl (fun w1 hb1 hF1 hG1 => ⟨by go_simp, ?_⟩) ?_
        · refine (bit_in i k w1 hi hcj).mono ?_
          rintro e w2 ⟨rfl, b2⟩
          exact ⟨_, rfl, (FlowB.rel_butIn _).of b2, rfl, hG1.1.below b2, hG1.2.1.below b2, hG1.2.2.below b2⟩
        rintro vb w1 hb1 hF1 rfl
        apply Exists.intro
        refine ⟨fun w3 hb3 hF3 => ?_, ?_⟩
        · skip
          simp only [pick, List.getElem?_toArray, List.getElem?_cons_succ, List.getElem?_cons_zero, Option.toList_some, List.cons_append, List.nil_append, Act.put, List.setIfInBounds_toArray, List.set_cons_zero, List.set_cons_succ]
          repeat (first | go_big_quiet_step (fail))
          exact wpQuiet_nil rfl
        refine FlowB.AlChk.nil ?_
        refine FlowB.Walk.call rfl 63 #[.agg (sk.map (Value.int .u8)).toArray, .bool (decide (bitL i k = 1)), .pointer (some ⟨bx, 0, none⟩), .pointer (some ⟨bt, 0, none⟩)] (fun _ _ => True) (fun _ wz => ∃ v', Blk wz bx ((if decide (bitL i k = 1) then nodeL sk xk else nodeL xk sk).map (Value.int .u8)).toArray 23 ∧ Blk wz bt #[v'] 31 ∧ OwnR wz [bx, bt] base v' (([(0 :: (i ++ c))] ++ tk) ++ [if decide (bitL i k = 1) then nodeX sk xk else nodeX xk sk])) (fun _ _ _ _ h _ => h) (fun _ _ _ ⟨v', h1, h2, h3⟩ hb => ⟨v', h1.below hb, h2.below hb, h3.below hb⟩) rfl (fun w1 hb1 hF1 hG1 => ⟨by go_simp; rfl, ?_⟩) ?_
        · refine (up_both _ xk sk bx bt base v ([(0 :: (i ++ c))] ++ tk) w1 HXT.out HSd.out hG1.1 hG1.2.1 hG1.2.2 (by omega) (by omega) (by omega) (Nat.le_trans hbwwq hb1.size) hlen2 hgx hgt hgb (tab_butIn (Htab.out.below HBwq.out) hb1 (tab_all hgx hgt hgb hfm))).mono ?_
          rintro e w2 ⟨rfl, v', q1, q2, q3, q4⟩
          exact ⟨_, rfl, q4, trivial, v', q1, q2, q3⟩
        rintro vr w1 hb1 hF1 _
        apply Exists.intro
        refine ⟨fun w3 hb3 hF3 => wpQuiet_nil rfl, ?_⟩
        refine FlowB.AlChk.nil ?_
        refine FlowB.Walk.fin fun w6 h6 _ hG6 => ?_
        simp only [List.drop_succ_cons, List.drop_zero]
        obtain ⟨v', q1, q2, q3⟩ := hG6
        have hnT : ∀ n, n ≠ bx → n ≠ bt → n ∉ v.ownBlock.toList → n ∉ bx :: bt :: v.ownBlock.toList := fun n h1 h2 h3 hm => by
          rcases List.mem_cons.1 hm with h | hm
          · exact h1 h
          · rcases List.mem_cons.1 hm with h | hm
            · exact h2 h
            · exact h3 hm
        have HB6 := hid (h6.below HBwq.out HBwq.out.size (fun b hb => by
          rcases List.mem_cons.1 hb with h | hb
          · omega
          · rcases List.mem_cons.1 hb with h | hb
            · omega
            · have := hfm b hb; omega))
        have Kg6 := hid (h6.blk Kgwq.out (hnT _ (by omega) (by omega) hngg))
        have Ki6 := hid (h6.blk Kiwq.out (hnT _ (by omega) (by omega) (fun hm => by have := hfm _ hm; omega)))
        have Ks6 := hid (h6.blk Kswq.out (hnT _ (by omega) (by omega) (fun hm => by have := hfm _ hm; omega)))
        have HQ1 := hid q1
        have HQ2 := hid q2
        have HQ3 := hid q3
        have hs6 := Nat.le_trans hbwwq h6.size
        clear h6 q1 q2 q3 hfm hfz hngg hnT
        go_wp2_with fail
        exact ⟨⟨k + 1, (cutD (some ⟨g7, ro, none⟩) 1 (cap - q)), by omega, by first | rfl | simp, by rw [HNq.out, Nat.sub_add_eq, Nat.sub_add_eq], by rw [HNq.out]; exact HCO.out, by rw [HTS.out, HTX.out]; exact HQ1.out, ⟨_, HQ2.out, by rw [HTS.out, HRX.out, ← List.append_assoc]; exact HQ3.out⟩, hs6, Kg6.out, Ki6.out, Ks6.out, HB6.out⟩, by simp [intOf]; omega⟩
    · skip
      have hke : k = 256 := by omega
      have hcI : ¬ (k : Int) < 256 := by omega
      have hll : ([(0 :: (i ++ c))] ++ trailF (leafE i c) (treeS i d ns k)).length ≤ 1000 := by rw [List.length_append, trailF_length, treeS_length]; simp; omega
      rw [hke] at HOwr hll
      generalize hTT : [(0 :: (i ++ c))] ++ trailF (leafE i c) (treeS i d ns 256) = TT at *
      have HTT := hid hTT
      clear hTT
      obtain ⟨a9, c9, hv9, -⟩ := HOwr.out.texts
      subst hv9
      obtain ⟨N9, hN9⟩ : ∃ N, N = TT.length := ⟨_, rfl⟩
      rw [← hN9] at HOwr Ktwr
      have hl9 := HOwr.out.from
      clear hN9
      go_wp2_with fail
      refine (end_any bx bt base a9 N9 c9 TT _ Ktwr.out HOwr.out (by omega) hll).mono ?_
      rintro e w8 ⟨rfl, o8, r8⟩
      have HO8 := hid (r8.below HBwr.out hswr (fun b hb => by have := hl9 b hb; omega))
      have HP8 := hid o8
      clear o8 r8 hl9
      go_wp2_with fail
      go_returns
      exact ⟨.slice a9 N9 c9, rfl, [bx, bt], base, by omega, by have HR := HP8.out; rw [← HTT.out] at HR; unfold lastX lastD; simpa using HR, HO8.out⟩
set_option maxHeartbeats 4000000 in
theorem treeTrail_good_false (i c d : List Int) (ad : Option Addr) (len cap : Nat) (ns : List (List Int)) (w : World) (hi : Dg i) (hc : Dg c) (hd : Dg d) (hns : DigsAt w ad len cap ns) (tab : ShaTab w) (hn : knN d 256 = len) :
    Calls Tryd.prog 10 #[.agg (i.map (Value.int .u8)).toArray, .agg (sideC false c d (.slice ad len cap)).toArray] w fun e w' => ∃ v, e = .returned v ∧ ∃ Sx base, w.heap.size ≤ base ∧ OwnR w' Sx base v ((lastX false i c) :: trailF (lastD false i c) (treeS i d ns 256)).reverse ∧ Below w.heap.size w w' := by
  have b1 := (Below.refl w.heap.size w).alloc (Nat.le_refl _) (.cells (i.map (Value.int .u8)).toArray 23 (0, 0))
  have HN := hid hns
  have CG := hid (fun (W : World) (h1 : DigsAt W ad len cap ns) (h2 : ShaTab W) => climb_good (emptyL 0) i d ad len cap ns W (Dg.emptyL 0) hi hd hn h1 h2)
  have HT0 := hid (Dg.climbK (Dg.emptyL 0) d i ns 256)
  generalize climbK d i ns (emptyL 0) 256 = T0 at CG HT0
  have b2 := b1.alloc b1.size (.cells (sideC false c d (.slice ad len cap)).toArray 28 (0, 0))
  have Ki := hid ((Blk.new (w := w) (n := w.heap.size) rfl (i.map (Value.int .u8)).toArray 23).old (.cells (sideC false c d (.slice ad len cap)).toArray 28 (0, 0)))
  have Ks := hid (Blk.new (w := (w.alloc (.cells (i.map (Value.int .u8)).toArray 23 (0, 0)))) (n := w.heap.size + 1) (by simp only [World.size_alloc]) (sideC false c d (.slice ad len cap)).toArray 28)
  have Hb := hid b2
  have hbz := b2.size
  have Hbs := hid (show w.heap.size + 1 + 1 = ((w.alloc (.cells (i.map (Value.int .u8)).toArray 23 (0, 0))).alloc (.cells (sideC false c d (.slice ad len cap)).toArray 28 (0, 0))).heap.size by simp only [World.size_alloc])
  have Htab := hid tab
  clear b1 b2 tab 
  have HI := hid hi
  have HC := hid hc
  have HDd := hid hd
  have HE0 := hid (Dg.emptyL 0)
  have cp : ((w.alloc (.cells (i.map (Value.int .u8)).toArray 23 (0, 0))).alloc (.cells (sideC false c d (.slice ad len cap)).toArray 28 (0, 0))).cell? ⟨w.heap.size + 1, 0, none⟩ = some (.bool false) := by rw [Ks.out.cell]; rfl
  go_enter Tryd.func10, Tryd.ntmps10
  go_wp2_with fail
  refine (empty_any _ (Htab.out.below Hb.out)).mono ?_
  rintro e wa ⟨rfl, b1, kg⟩
  obtain ⟨g, hg⟩ : ∃ g, g = ((w.alloc (.cells (i.map (Value.int .u8)).toArray 23 (0, 0))).alloc (.cells (sideC false c d (.slice ad len cap)).toArray 28 (0, 0))).heap.size := ⟨_, rfl⟩
  rw [← hg] at kg ⊢
  have hgl := kg.lt
  have HG := hid (dig_rng kg (empN_each 257) (show 0 < (empN 257).length by rw [empN_length]; omega))
  rw [empN_get (show 0 < 257 by omega)] at HG
  clear kg hg
  have HBwa := hid (Below.on Hb.out b1)
  have hswa := HBwa.out.size
  have Kiwa := hid (Ki.out.below b1)
  have Kswa := hid (Ks.out.below b1)
  clear b1
  go_wp2_with (first
     | (refine wpList_index_digs rfl 24 _ _ rfl Tryd.underlying24 size_digest g 0 257 257 rfl _ _ rfl 0 rfl (by omega) ?_)
     | (refine wpList_load_mid rfl 23 _ rfl g (0 + 0 * 32) rfl _ _ HG.out Tryd.underlying23 rfl (by rw [List.length_map, HE0.out.len]; exact size_digest) ?_)
     | (
      refine wpList_store_blk rfl 23 _ _ rfl (wa.heap.size + 1) ((emptyL 0).map (Value.int .u8)).toArray rfl rfl _ 23 (Blk.new (w := (wa.alloc (.cells #[.int .u8 2] 5 (0, 0)))) (n := wa.heap.size + 1) (by simp only [World.size_alloc]) (byteCells 32 []) 23) 32 size_digest zsize HE0.out.size (ints_one _ _) ?_
      intro w2 hb2 hk2
      have hb2b := hb2.below (((Below.refl wa.heap.size wa).alloc (Nat.le_refl _) (.cells #[.int .u8 2] 5 (0, 0))).alloc (by simp only [World.size_alloc]; omega) (.cells (byteCells 32 []) 23 (0, 0))) (by simp only [World.size_alloc]; omega) (by omega)
      have HBw2 := hid (Below.on HBwa.out hb2b)
      have hsw2 := HBw2.out.size
      have hs12 : wa.heap.size + 1 + 1 ≤ w2.heap.size := by have := hb2.size; simp only [World.size_alloc] at this; omega
      have Kiw2 := hid (Kiwa.out.below hb2b)
      have Ksw2 := hid (Kswa.out.below hb2b)
      have Ktw2 := hid (hb2.blk ((Blk.new (w := wa) (n := wa.heap.size) rfl #[.int .u8 2] 5).old (.cells (byteCells 32 []) 23 (0, 0))) (by omega))
      have Kxw2 := hid hk2
      have hw1l : w.heap.size + 1 < wa.heap.size := Kswa.out.lt
      have cp2 : w2.cell? ⟨w.heap.size + 1, 0, none⟩ = some (.bool false) := by rw [Ksw2.out.cell]; rfl
      clear hb2 hk2 hb2b)
     | (refine wpList_load_blk rfl 23 _ rfl (wa.heap.size + 1) rfl _ 23 Kxw2.out _ Tryd.underlying23 rfl 32 size_digest HE0.out.size ?_)
     | (refine wpList_load_blk rfl 23 _ rfl (w.heap.size) rfl _ 23 Kiw2.out _ Tryd.underlying23 rfl 32 size_digest hi.size ?_)
     | (refine wpList_load_mid rfl 26 _ rfl (w.heap.size + 1) 33 rfl _ _ (sideC_proof hc Ksw2.out) Tryd.underlying26 rfl (by rw [show (prC d (.slice ad len cap)).length = 33 by simp [prC, hd.len]]; exact size_proof) ?_))
  have HTx := hid (TextAt.of_ints (n := 1) (bs := [2]) Ktw2.out rfl (by omega) (by simp))
  have htp := Ktw2.out.lt
  refine (CG.out _ (HN.out.below HBw2.out) (Htab.out.below HBw2.out)).mono ?_
  rintro e w3 ⟨rfl, bw3⟩
  have HTxw3 := hid (HTx.out.below bw3)
  have htpw3 := Nat.lt_of_lt_of_le htp bw3.size
  have HBw3 := hid (Below.on HBw2.out bw3)
  have hsw3 := HBw3.out.size
  have Kiw3 := hid (Kiw2.out.below bw3)
  have Ksw3 := hid (Ksw2.out.below bw3)
  have Ktw3 := hid (Ktw2.out.below bw3)
  have Kxw3 := hid (Kxw2.out.below bw3)
  clear bw3
  go_wp2_with (first
     | (
        refine wpList_store_blk rfl 23 _ _ rfl (w3.heap.size) (T0.map (Value.int .u8)).toArray rfl rfl _ 23 (Blk.new rfl (byteCells 32 []) _) 32 size_digest zsize HT0.out.size (ints_one _ _) ?_
        intro w4 hbw4 hkw4
        have hw4 := hbw4.below ((Below.refl w3.heap.size w3).alloc (Nat.le_refl _) _) (by simp only [World.size_alloc]; omega) (Nat.le_refl _)
        have HBw4 := hid (Below.on HBw3.out hw4)
        have hsw4 := HBw4.out.size
        have Kiw4 := hid (Kiw3.out.below hw4)
        have hliw4 := Kiw3.out.lt
        have Ksw4 := hid (Ksw3.out.below hw4)
        have hlsw4 := Ksw3.out.lt
        have Ktw4 := hid (Ktw3.out.below hw4)
        have hltw4 := Ktw3.out.lt
        have Kxw4 := hid (Kxw3.out.below hw4)
        have hlxw4 := Kxw3.out.lt
        have Kyw4 := hid hkw4
        have hfw4 : w.heap.size ≤ w3.heap.size := HBw3.out.size
        have HTxw4 := hid (HTxw3.out.below hw4)
        have htpw4 := Nat.lt_of_lt_of_le htpw3 hw4.size
        clear hbw4 hkw4 hw4)
     | (refine wpList_load_blk rfl 23 _ rfl (wa.heap.size + 1) rfl _ 23 Kxw4.out _ Tryd.underlying23 rfl 32 size_digest HE0.out.size ?_))
  refine (climber_text (emptyL 0) (⟨wa.heap.size, 0, none⟩) 1 1 [2] w4 HTxw4.out htpw4).mono ?_
  rintro e wc ⟨a1, c1, rfl, kx, kt, ho, b1⟩
  obtain ⟨bx, hbx⟩ : ∃ b, b = w4.heap.size := ⟨_, rfl⟩
  obtain ⟨bt, hbt⟩ : ∃ b, b = w4.heap.size + 1 := ⟨_, rfl⟩
  obtain ⟨base, hbase⟩ : ∃ b, b = w4.heap.size + 1 + 1 := ⟨_, rfl⟩
  rw [← hbt, ← hbx]
  rw [← hbase, ← hbt, ← hbx] at ho
  rw [← hbx] at kx
  rw [← hbt] at kt
  have hlt0 : w.heap.size ≤ bx := by have := HBw4.out.size; omega
  have hlt2 : bx < bt := by omega
  have hlt3 : bt < base := by omega
  have hb1 : base ≤ wc.heap.size := by have := kt.lt; omega
  have hlsx : w.heap.size + 1 < bx := by have := Ksw4.out.lt; omega
  clear hbx hbt hbase
  have HBwc := hid (Below.on HBw4.out b1)
  have Kiwc := hid (Kiw4.out.below b1)
  have Kswc := hid (Ksw4.out.below b1)
  have Kx1 := hid kx
  have Kt1 := hid kt
  have HO1 := hid ho
  have hsz1 := ho.size
  have cnn : wc.cell? ⟨w.heap.size + 1, 65, none⟩ = some (.slice ad len cap) := sideC_nodes hc hd Kswc.out
  clear kx kt ho b1
  go_wp2_with fail
  refine (empty_any _ (Htab.out.below HBwc.out)).mono ?_
  rintro e wd ⟨rfl, bd, kg2⟩
  obtain ⟨g2, hg2⟩ : ∃ b, b = wc.heap.size := ⟨_, rfl⟩
  rw [← hg2] at kg2 ⊢
  have hcut : ∀ W' : World, (Instr.slice 24 (.slice (some ⟨g2, 0, none⟩) 257 257) none (some (.int .i64 256)) none).run Tryd.prog W' = .ok (.slice (some ⟨g2, 0, none⟩) 256 257) W' := fun W' => by
    have h := run_cutd_h (P := Tryd.prog) Tryd.underlying24 size_digest (some ⟨g2, 0, none⟩) 257 257 256 W' (by omega) (by omega)
    simpa using h
  have HBwd := hid (Below.on HBwc.out bd)
  have Kiwd := hid (Kiwc.out.below bd)
  have Kswd := hid (Kswc.out.below bd)
  have Kxwd := hid (Kx1.out.below bd)
  have Ktwd := hid (Kt1.out.below bd)
  have HOwd := hid (HO1.out.below bd)
  have Kgwd := hid kg2
  have hgg : base ≤ g2 := by omega
  have hg3 : base ≤ wd.heap.size := Nat.le_trans hb1 bd.size
  have hgt0 : tabLow w.heap.size := ⟨Htab.out.lt, Htab.out.lt0⟩
  clear bd kg2 hg2 cnn
  go_wp2_with fail
  go_loopw [11, 52] (fun rv iv wr => ∃ (k : Nat) (ra : Option Addr), k ≤ 256 ∧ iv = .int .i64 k ∧ rv = .slice ra (len - knN d k) (cap - knN d k) ∧ DigsAt w ra (len - knN d k) (cap - knN d k) (ns.drop (knN d k)) ∧ Blk wr bx ((topF (emptyL 0) (treeS i d ns k)).map (Value.int .u8)).toArray 23 ∧ (∃ v, Blk wr bt #[v] 31 ∧ OwnR wr [bx, bt] base v ([[2]] ++ trailF (emptyL 0) (treeS i d ns k))) ∧ base ≤ wr.heap.size ∧ Blk wr g2 (dcs (empN 257)) 23 ∧ Blk wr w.heap.size (i.map (Value.int .u8)).toArray 23 ∧ Blk wr (w.heap.size + 1) (sideC false c d (.slice ad len cap)).toArray 28 ∧ Below w.heap.size w wr) (fun _ iv _ => 256 - (intOf iv).toNat)
  case atStart => exact ⟨0, ad, Nat.zero_le _, rfl, rfl, HN.out, Kxwd.out, ⟨_, Ktwd.out, HOwd.out⟩, hg3, Kgwd.out, Kiwd.out, Kswd.out, HBwd.out⟩
  case round =>
    obtain ⟨k, ra, hk, rfl, rfl, hra, kx, ⟨v, kt, ho⟩, hbw, kg, ki, ks, bel⟩ := hrel
    have HRA := hid hra
    have Kxwr := hid kx
    have Ktwr := hid kt
    have HOwr := hid ho
    have Kgwr := hid kg
    have Kiwr := hid ki
    have Kswr := hid ks
    have HBwr := hid bel
    have hswr := bel.size
    have hbxl := kx.lt
    have hbtl := kt.lt
    have hgl := kg.lt
    clear hra kx kt ho kg ki ks bel
    by_cases hcj : k < 256
    · skip
      have hcI : (k : Int) < 256 := by omega
      have HTX := hid (topF_snoc (emptyL 0) (treeS i d ns k) (sibL d ns k) (decide (bitL i k = 1)))
      have HRX := hid (trailF_snoc (emptyL 0) (treeS i d ns k) (sibL d ns k) (decide (bitL i k = 1)))
      have HTS := hid (treeS_succ i d ns k)
      have htl : (trailF (emptyL 0) (treeS i d ns k)).length ≤ 256 := by rw [trailF_length, treeS_length]; omega
      have HXT := hid (Dg.topF (Dg.emptyL 0) (treeS i d ns k))
      have HSd := hid (Dg.sibL hn HN.out (k := k) hcj)
      have HEk := hid (Dg.emptyL k)
      have HRG := hid (by have h := dig_rng Kgwr.out (empN_each 257) (j := k) (by rw [empN_length]; omega); rw [empN_get (show k < 257 by omega)] at h; exact h)
      have hsb : sibL d ns k = if knB d k then ns.getD (knN d k) [] else emptyL k := rfl
      have hkb : knB d k = decide (d.getD (k / 8) 0 / 2 ^ (k % 8) % 2 = 1) := rfl
      have hsn : knN d (k + 1) = knN d k + (if knB d k then 1 else 0) := rfl
      have hmn := knN_mono d (show k + 1 ≤ 256 by omega)
      have hxx := dg_at hd (k / 8)
      have hlen := hd.len
      generalize topF (emptyL 0) (treeS i d ns k) = xk at *
      generalize trailF (emptyL 0) (treeS i d ns k) = tk at *
      generalize emptyL k = ek at *
      have HXE := hid (fun (W : World) (K : Blk W (w.heap.size + 1) (sideC false c d (.slice ad len cap)).toArray 28) => show W.cell? ⟨w.heap.size + 1, 33 + k / 8, none⟩ = some (.int .u8 (d.getD (k / 8) 0)) from sideC_known hc K (k / 8) _ (by rw [List.getElem?_map, List.getD_eq_getElem?_getD, List.getElem?_eq_getElem (by omega)]; rfl))
      have hI0 : ¬ (k : Int) / 8 < 0 := by omega
      have hI1 : ¬ (32 : Int) ≤ (k : Int) / 8 := by omega
      have hI2 : ¬ (k : Int) % 8 < 0 := by omega
      generalize d.getD (k / 8) 0 = xb at *
      have h2 : 0 ≤ xb / 2 ^ (k % 8) ∧ xb / 2 ^ (k % 8) < 256 := ⟨Int.ediv_nonneg hxx.1 (Int.le_of_lt (Int.pow_pos (by omega))), Int.lt_of_le_of_lt (Int.ediv_le_self _ hxx.1) hxx.2⟩
      have hbt8 := and_one' h2
      generalize sibL d ns k = sk at *
      cases hB : knB d k with
      | false =>
        rw [hB] at hkb hsn hsb
        clear hB
        have hc1 : (bits .and .u8 (xb / 2 ^ (k % 8)) 1 == 1) = false := by
          rw [hbt8]
          have := of_decide_eq_false hkb.symm
          simpa using this
        rw [if_neg (by simp)] at hsn hsb
        generalize hq : knN d k = q at *
        have HNq := hid hsn
        have HQ := hid hq
        have HSB := hid hsb
        skip
        clear hbt8 hkb hsn hq hsb h2 hxx
        go_wp2_with (first
           | (refine wpList_index_digs rfl 24 _ _ rfl Tryd.underlying24 size_digest g2 0 256 257 rfl _ _ rfl k rfl (by omega) ?_)
           | (refine wpList_load_mid rfl 23 _ rfl g2 (0 + k * 32) rfl _ _ HRG.out Tryd.underlying23 rfl (by rw [List.length_map, HEk.out.len]; exact size_digest) ?_)
           | (
              refine wpList_store_blk rfl 23 _ _ rfl (wr.heap.size) (ek.map (Value.int .u8)).toArray rfl rfl _ 23 (Blk.new rfl (byteCells 32 []) _) 32 size_digest zsize HEk.out.size (ints_one _ _) ?_
              intro w61 hbw61 hkw61
              have hw61 := hbw61.below ((Below.refl wr.heap.size wr).alloc (Nat.le_refl _) _) (by simp only [World.size_alloc]; omega) (Nat.le_refl _)
              have HBw61 := hid (Below.on HBwr.out hw61)
              have hsw61 := HBw61.out.size
              have Kiw61 := hid (Kiwr.out.below hw61)
              have hliw61 := Kiwr.out.lt
              have Ksw61 := hid (Kswr.out.below hw61)
              have hlsw61 := Kswr.out.lt
              have Kxw61 := hid (Kxwr.out.below hw61)
              have hlxw61 := Kxwr.out.lt
              have Kgw61 := hid (Kgwr.out.below hw61)
              have hlgw61 := Kgwr.out.lt
              have Kqw61 := hid hkw61
              have hfw61 : w.heap.size ≤ wr.heap.size := HBwr.out.size
              have HPw61 := hid hw61
              have Ktw61 := hid (Ktwr.out.below hw61)
              have HOw61 := hid (HOwr.out.below hw61)
              have hbww61 : base ≤ w61.heap.size := Nat.le_trans hbw hw61.size
              have hxe := HXE.out _ Ksw61.out
              clear hbw61 hkw61 hw61))
        have hek : ek = sk := HSB.out.symm
        subst hek
        have hlen2 : ([[2]] ++ tk).length ≤ 1000 := by rw [List.length_append]; simp; omega
        have hfm := HOw61.out.from
        have hfz := HOw61.out.size
        have hngg := HOw61.out.not_dig Kgw61.out
        have hgx : tabLow bx := ⟨by have := hgt0.1; omega, by have := hgt0.2; omega⟩
        have hgt : tabLow bt := ⟨by have := hgt0.1; omega, by have := hgt0.2; omega⟩
        have hgb : tabLow base := ⟨by have := hgt0.1; omega, by have := hgt0.2; omega⟩
        refine FlowB.wp_region_butIn (bx :: bt :: v.ownBlock.toList) (fun wz => Blk wz bx (xk.map (Value.int .u8)).toArray 23 ∧ Blk wz bt #[v] 31 ∧ OwnR wz [bx, bt] base v ([[2]] ++ tk)) 7 [0, 1, 2, 3] [] [(.c 4, [5], []), (.c 6, [], [])] (by kernel_rfl) (by kernel_rfl) ⟨Kxw61.out, Ktw61.out, HOw61.out⟩ (fun _ _ h hb => ⟨h.1.below hb, h.2.1.below hb, h.2.2.below hb⟩) ?_
        apply Exists.intro
        refine ⟨fun w0 hb0 hF0 => ?_, ?_⟩
        · skip
          have hnS : ∀ n, n ≠ bx → n ≠ bt → (∀ g ∈ v.ownBlock.toList, n ≠ g) → n ∉ bx :: bt :: v.ownBlock.toList := fun n h1 h2 h3 hm => by
            rcases List.mem_cons.1 hm with h | hm
            · exact h1 h
            · rcases List.mem_cons.1 hm with h | hm
              · exact h2 h
              · exact h3 n hm rfl
          have x0 : ∀ w', (∃ x : Ext w0, w' = x.at_) → ∃ T, Blk w' wr.heap.size (ek.map (Value.int .u8)).toArray T := fun w' ⟨x, hx⟩ => ⟨_, hx ▸ (hb0.blk Kqw61.out (hnS _ (by omega) (by omega) (fun g hg => by have := HOwr.out.size g hg; omega))).below x.same⟩
          have x1 : ∀ w', (∃ x : Ext w0, w' = x.at_) → ∃ T, Blk w' w.heap.size (i.map (Value.int .u8)).toArray T := fun w' ⟨x, hx⟩ => ⟨_, hx ▸ (hb0.blk Kiw61.out (hnS _ (by omega) (by omega) (fun g hg => by have := hfm g hg; omega))).below x.same⟩
          simp only [pick, List.getElem?_toArray, List.getElem?_cons_succ, List.getElem?_cons_zero, Option.toList_some, List.cons_append, List.nil_append]
          repeat (first | (go_big_quiet_want; refine quiet_load_blk 23 _ rfl (wr.heap.size) rfl _ x0 _ Tryd.underlying23 rfl 32 size_digest HSd.out.size ?_; go_big_quiet_on; simp only [Act.put, List.setIfInBounds_toArray, List.set_cons_zero, List.set_cons_succ]) | (go_big_quiet_want; refine quiet_load_blk 23 _ rfl (w.heap.size) rfl _ x1 _ Tryd.underlying23 rfl 32 size_digest hi.size ?_; go_big_quiet_on; simp only [Act.put, List.setIfInBounds_toArray, List.set_cons_zero, List.set_cons_succ]) | go_big_quiet_step (fail))
          exact wpQuiet_nil rfl
        refine FlowB.AlChk.nil ?_
        refine FlowB.Walk.call rfl 37 #[.agg (i.map (Value.int .u8)).toArray, .int .i64 (k : Int)] (fun v' _ => v' = .int .i64 (bitL i k)) (fun _ wz => Blk wz bx (xk.map (Value.int .u8)).toArray 23 ∧ Blk wz bt #[v] 31 ∧ OwnR wz [bx, bt] base v ([[2]] ++ tk)) (fun _ _ _ _ h _ => h) (fun _ _ _ h hb => ⟨h.1.below hb, h.2.1.below hb, h.2.2.below hb⟩) rfl (fun w1 hb1 hF1 hG1 => ⟨by go_simp, ?_⟩) ?_
        · refine (bit_in i k w1 hi hcj).mono ?_
          rintro e w2 ⟨rfl, b2⟩
          exact ⟨_, rfl, (FlowB.rel_butIn _).of b2, rfl, hG1.1.below b2, hG1.2.1.below b2, hG1.2.2.below b2⟩
        rintro vb w1 hb1 hF1 rfl
        apply Exists.intro
        refine ⟨fun w3 hb3 hF3 => ?_, ?_⟩
        · skip
          simp only [pick, List.getElem?_toArray, List.getElem?_cons_succ, List.getElem?_cons_zero, Option.toList_some, List.cons_append, List.nil_append, Act.put, List.setIfInBounds_toArray, List.set_cons_zero, List.set_cons_succ]
          repeat (first | go_big_quiet_step (fail))
          exact wpQuiet_nil rfl
        refine FlowB.AlChk.nil ?_
        refine FlowB.Walk.call rfl 63 #[.agg (ek.map (Value.int .u8)).toArray, .bool (decide (bitL i k = 1)), .pointer (some ⟨bx, 0, none⟩), .pointer (some ⟨bt, 0, none⟩)] (fun _ _ => True) (fun _ wz => ∃ v', Blk wz bx ((if decide (bitL i k = 1) then nodeL ek xk else nodeL xk ek).map (Value.int .u8)).toArray 23 ∧ Blk wz bt #[v'] 31 ∧ OwnR wz [bx, bt] base v' (([[2]] ++ tk) ++ [if decide (bitL i k = 1) then nodeX ek xk else nodeX xk ek])) (fun _ _ _ _ h _ => h) (fun _ _ _ ⟨v', h1, h2, h3⟩ hb => ⟨v', h1.below hb, h2.below hb, h3.below hb⟩) rfl (fun w1 hb1 hF1 hG1 => ⟨by go_simp; rfl, ?_⟩) ?_
        · refine (up_both _ xk ek bx bt base v ([[2]] ++ tk) w1 HXT.out HSd.out hG1.1 hG1.2.1 hG1.2.2 (by omega) (by omega) (by omega) (Nat.le_trans hbww61 hb1.size) hlen2 hgx hgt hgb (tab_butIn (Htab.out.below HBw61.out) hb1 (tab_all hgx hgt hgb hfm))).mono ?_
          rintro e w2 ⟨rfl, v', q1, q2, q3, q4⟩
          exact ⟨_, rfl, q4, trivial, v', q1, q2, q3⟩
        rintro vr w1 hb1 hF1 _
        apply Exists.intro
        refine ⟨fun w3 hb3 hF3 => wpQuiet_nil rfl, ?_⟩
        refine FlowB.AlChk.nil ?_
        refine FlowB.Walk.fin fun w6 h6 _ hG6 => ?_
        simp only [List.drop_succ_cons, List.drop_zero]
        obtain ⟨v', q1, q2, q3⟩ := hG6
        have hnT : ∀ n, n ≠ bx → n ≠ bt → n ∉ v.ownBlock.toList → n ∉ bx :: bt :: v.ownBlock.toList := fun n h1 h2 h3 hm => by
          rcases List.mem_cons.1 hm with h | hm
          · exact h1 h
          · rcases List.mem_cons.1 hm with h | hm
            · exact h2 h
            · exact h3 hm
        have HB6 := hid (h6.below HBw61.out HBw61.out.size (fun b hb => by
          rcases List.mem_cons.1 hb with h | hb
          · omega
          · rcases List.mem_cons.1 hb with h | hb
            · omega
            · have := hfm b hb; omega))
        have Kg6 := hid (h6.blk Kgw61.out (hnT _ (by omega) (by omega) hngg))
        have Ki6 := hid (h6.blk Kiw61.out (hnT _ (by omega) (by omega) (fun hm => by have := hfm _ hm; omega)))
        have Ks6 := hid (h6.blk Ksw61.out (hnT _ (by omega) (by omega) (fun hm => by have := hfm _ hm; omega)))
        have HQ1 := hid q1
        have HQ2 := hid q2
        have HQ3 := hid q3
        have hs6 := Nat.le_trans hbww61 h6.size
        clear h6 q1 q2 q3 hfm hfz hngg hnT
        go_wp2_with fail
        exact ⟨⟨k + 1, ra, by omega, by first | rfl | simp, by rw [HNq.out]; rfl, by rw [HNq.out]; exact HRA.out, by rw [HTS.out, HTX.out]; exact HQ1.out, ⟨_, HQ2.out, by rw [HTS.out, HRX.out, ← List.append_assoc]; exact HQ3.out⟩, hs6, Kg6.out, Ki6.out, Ks6.out, HB6.out⟩, by simp [intOf]; omega⟩
      | true =>
        rw [hB] at hkb hsn hsb
        clear hB
        have hc1 : (bits .and .u8 (xb / 2 ^ (k % 8)) 1 == 1) = true := by
          rw [hbt8]
          have := of_decide_eq_true hkb.symm
          simpa using this
        rw [if_pos rfl] at hsn hsb
        generalize hq : knN d k = q at *
        have HNq := hid hsn
        have HQ := hid hq
        have HSB := hid hsb
        have hql : q + 1 ≤ len := by omega
        clear hbt8 hkb hsn hq hsb h2 hxx
        obtain ⟨g7, ro, rfl, hg7, hr7⟩ := HRA.out.at_ (by omega)
        have Hr1 := hid (by have h := hr7 0 (by omega); rw [show (ns.drop q).getD 0 [] = ns.getD q [] by simp [List.getD_eq_getElem?_getD], ← HSB.out] at h; exact h)
        have HCO := hid (cut_one HRA.out hql)
        clear hr7
        go_wp2_with (first
           | (refine wpList_index_digs rfl 24 _ _ rfl Tryd.underlying24 size_digest g2 0 256 257 rfl _ _ rfl k rfl (by omega) ?_)
           | (refine wpList_load_mid rfl 23 _ rfl g2 (0 + k * 32) rfl _ _ HRG.out Tryd.underlying23 rfl (by rw [List.length_map, HEk.out.len]; exact size_digest) ?_)
           | (
              refine wpList_store_blk rfl 23 _ _ rfl (wr.heap.size) (ek.map (Value.int .u8)).toArray rfl rfl _ 23 (Blk.new rfl (byteCells 32 []) _) 32 size_digest zsize HEk.out.size (ints_one _ _) ?_
              intro w61 hbw61 hkw61
              have hw61 := hbw61.below ((Below.refl wr.heap.size wr).alloc (Nat.le_refl _) _) (by simp only [World.size_alloc]; omega) (Nat.le_refl _)
              have HBw61 := hid (Below.on HBwr.out hw61)
              have hsw61 := HBw61.out.size
              have Kiw61 := hid (Kiwr.out.below hw61)
              have hliw61 := Kiwr.out.lt
              have Ksw61 := hid (Kswr.out.below hw61)
              have hlsw61 := Kswr.out.lt
              have Kxw61 := hid (Kxwr.out.below hw61)
              have hlxw61 := Kxwr.out.lt
              have Kgw61 := hid (Kgwr.out.below hw61)
              have hlgw61 := Kgwr.out.lt
              have Kqw61 := hid hkw61
              have hfw61 : w.heap.size ≤ wr.heap.size := HBwr.out.size
              have HPw61 := hid hw61
              have Ktw61 := hid (Ktwr.out.below hw61)
              have HOw61 := hid (HOwr.out.below hw61)
              have hbww61 : base ≤ w61.heap.size := Nat.le_trans hbw hw61.size
              have hxe := HXE.out _ Ksw61.out
              clear hbw61 hkw61 hw61))
        refine FlowB.wp_region_butIn [wr.heap.size] (fun wz => Blk wz (wr.heap.size) (ek.map (Value.int .u8)).toArray 23) 6 [0, 1, 2, 3, 4] [] [(.c 5, [], [])] (by kernel_rfl) (by kernel_rfl) Kqw61.out (fun _ _ h hb => h.below hb) ?_
        apply Exists.intro
        refine ⟨fun w0 hb0 hF0 => ?_, ?_⟩
        · skip
          have yr : ∀ w', (∃ x : Ext w0, w' = x.at_) → w'.rangeAt g7 (ro + 0 * 32) (sk.map (Value.int .u8)) := fun w' ⟨x, hx⟩ => by
            rw [hx]
            exact rangeAt_below (w := w0) (fun j v hv => by
              have h1 := HBw61.out
              rw [show w0.cell? ⟨g7, ro + 0 * 32 + j, none⟩ = w.cell? ⟨g7, ro + 0 * 32 + j, none⟩ from (hb0.below HBw61.out h1.size (by intro b hb; simp only [List.mem_singleton] at hb; omega)).cell (p := ⟨g7, ro + 0 * 32 + j, none⟩) hg7]
              exact Hr1.out j v hv) (by have := hb0.size; have := HBw61.out.size; omega) x.same
          simp only [pick, List.getElem?_toArray, List.getElem?_cons_succ, List.getElem?_cons_zero, Option.toList_some, List.cons_append, List.nil_append]
          repeat (first | (go_big_quiet_want; refine quiet_index_digs 24 _ _ rfl Tryd.underlying24 size_digest g7 ro (len - q) (cap - q) rfl _ _ rfl 0 rfl (by omega) ?_; go_big_quiet_on; simp only [Act.put, List.setIfInBounds_toArray, List.set_cons_zero, List.set_cons_succ]) | (go_big_quiet_want; refine quiet_load_mid 23 _ rfl g7 (ro + 0 * 32) rfl _ yr _ Tryd.underlying23 rfl (by rw [List.length_map, HSd.out.len]; exact size_digest) ?_; go_big_quiet_on; simp only [Act.put, List.setIfInBounds_toArray, List.set_cons_zero, List.set_cons_succ]) | (go_big_quiet_want; refine quiet_cut_l _ _ rfl (some ⟨g7, ro, none⟩) (len - q) (cap - q) 1 _ rfl rfl rfl (by omega) ?_; go_big_quiet_on; simp only [Act.put, List.setIfInBounds_toArray, List.set_cons_zero, List.set_cons_succ]) | go_big_quiet_step (fail))
          exact wpQuiet_nil rfl
        refine FlowB.AlChk.nil ?_
        refine FlowB.Walk.skips rfl (fun wz => Blk wz (wr.heap.size) (sk.map (Value.int .u8)).toArray 23) (fun _ _ h hb => h.below hb) rfl (fun w1 hb1 hF1 hG1 => ?_) ?_
        · exact FlowB.store_skips 23 _ _ rfl (wr.heap.size) (sk.map (Value.int .u8)).toArray rfl rfl _ 23 hG1 32 size_digest HEk.out.size HSd.out.size (ints_one _ _) (by simp) (fun w2 h2 h3 => h3)
        intro w1 hb1 hF1
        apply Exists.intro
        refine ⟨fun w2 hb2 hF2 => wpQuiet_nil rfl, ?_⟩
        refine FlowB.AlChk.nil ?_
        refine FlowB.Walk.fin fun wq h4 _ hG4 => ?_
        simp only [List.drop_succ_cons, List.drop_zero]
        have HBwq := hid (h4.below HBw61.out HBw61.out.size (by intro b hb; simp only [List.mem_singleton] at hb; omega))
        have hswq := HBwq.out.size
        have hbwwq : base ≤ wq.heap.size := Nat.le_trans hbww61 h4.size
        have hnz : ∀ n, n < wr.heap.size → n ∉ [wr.heap.size] := fun n hn hm => by simp only [List.mem_singleton] at hm; omega
        have Kxwq := hid (h4.blk Kxw61.out (hnz _ hbxl))
        have Ktwq := hid (h4.blk Ktw61.out (hnz _ hbtl))
        have Kgwq := hid (h4.blk Kgw61.out (hnz _ hgl))
        have Kiwq := hid (h4.blk Kiw61.out (hnz _ (by omega)))
        have Kswq := hid (h4.blk Ksw61.out (hnz _ (by omega)))
        have HOwq := hid (HOwr.out.below (h4.below HPw61.out HPw61.out.size (by intro b hb; simp only [List.mem_singleton] at hb; omega)))
        have Kqwq := hid hG4
        clear h4 hG4 hb1 hF1 hnz
        go_wp2_with fail
        have hlen2 : ([[2]] ++ tk).length ≤ 1000 := by rw [List.length_append]; simp; omega
        have hfm := HOwq.out.from
        have hfz := HOwq.out.size
        have hngg := HOwq.out.not_dig Kgwq.out
        have hgx : tabLow bx := ⟨by have := hgt0.1; omega, by have := hgt0.2; omega⟩
        have hgt : tabLow bt := ⟨by have := hgt0.1; omega, by have := hgt0.2; omega⟩
        have hgb : tabLow base := ⟨by have := hgt0.1; omega, by have := hgt0.2; omega⟩
        refine FlowB.wp_region_butIn (bx :: bt :: v.ownBlock.toList) (fun wz => Blk wz bx (xk.map (Value.int .u8)).toArray 23 ∧ Blk wz bt #[v] 31 ∧ OwnR wz [bx, bt] base v ([[2]] ++ tk)) 7 [0, 1, 2, 3] [] [(.c 4, [5], []), (.c 6, [], [])] (by kernel_rfl) (by kernel_rfl) ⟨Kxwq.out, Ktwq.out, HOwq.out⟩ (fun _ _ h hb => ⟨h.1.below hb, h.2.1.below hb, h.2.2.below hb⟩) ?_
        apply Exists.intro
        refine ⟨fun w0 hb0 hF0 => ?_, ?_⟩
        · skip
          have hnS : ∀ n, n ≠ bx → n ≠ bt → (∀ g ∈ v.ownBlock.toList, n ≠ g) → n ∉ bx :: bt :: v.ownBlock.toList := fun n h1 h2 h3 hm => by
            rcases List.mem_cons.1 hm with h | hm
            · exact h1 h
            · rcases List.mem_cons.1 hm with h | hm
              · exact h2 h
              · exact h3 n hm rfl
          have x0 : ∀ w', (∃ x : Ext w0, w' = x.at_) → ∃ T, Blk w' wr.heap.size (sk.map (Value.int .u8)).toArray T := fun w' ⟨x, hx⟩ => ⟨_, hx ▸ (hb0.blk Kqwq.out (hnS _ (by omega) (by omega) (fun g hg => by have := HOwr.out.size g hg; omega))).below x.same⟩
          have x1 : ∀ w', (∃ x : Ext w0, w' = x.at_) → ∃ T, Blk w' w.heap.size (i.map (Value.int .u8)).toArray T := fun w' ⟨x, hx⟩ => ⟨_, hx ▸ (hb0.blk Kiwq.out (hnS _ (by omega) (by omega) (fun g hg => by have := hfm g hg; omega))).below x.same⟩
          simp only [pick, List.getElem?_toArray, List.getElem?_cons_succ, List.getElem?_cons_zero, Option.toList_some, List.cons_append, List.nil_append]
          repeat (first | (go_big_quiet_want; refine quiet_load_blk 23 _ rfl (wr.heap.size) rfl _ x0 _ Tryd.underlying23 rfl 32 size_digest HSd.out.size ?_; go_big_quiet_on; simp only [Act.put, List.setIfInBounds_toArray, List.set_cons_zero, List.set_cons_succ]) | (go_big_quiet_want; refine quiet_load_blk 23 _ rfl (w.heap.size) rfl _ x1 _ Tryd.underlying23 rfl 32 size_digest hi.size ?_; go_big_quiet_on; simp only [Act.put, List.setIfInBounds_toArray, List.set_cons_zero, List.set_cons_succ]) | go_big_quiet_step (fail))
          exact wpQuiet_nil rfl
        refine FlowB.AlChk.nil ?_
        refine FlowB.Walk.call rfl 37 #[.agg (i.map (Value.int .u8)).toArray, .int .i64 (k : Int)] (fun v' _ => v' = .int .i64 (bitL i k)) (fun _ wz => Blk wz bx (xk.map (Value.int .u8)).toArray 23 ∧ Blk wz bt #[v] 31 ∧ OwnR wz [bx, bt] base v ([[2]] ++ tk)) (fun _ _ _ _ h _ => h) (fun _ _ _ h hb => ⟨h.1.below hb, h.2.1.below hb, h.2.2.below hb⟩) rfl (fun w1 hb1 hF1 hG1 => ⟨by go_simp, ?_⟩) ?_
        · refine (bit_in i k w1 hi hcj).mono ?_
          rintro e w2 ⟨rfl, b2⟩
          exact ⟨_, rfl, (FlowB.rel_butIn _).of b2, rfl, hG1.1.below b2, hG1.2.1.below b2, hG1.2.2.below b2⟩
        rintro vb w1 hb1 hF1 rfl
        apply Exists.intro
        refine ⟨fun w3 hb3 hF3 => ?_, ?_⟩
        · skip
          simp only [pick, List.getElem?_toArray, List.getElem?_cons_succ, List.getElem?_cons_zero, Option.toList_some, List.cons_append, List.nil_append, Act.put, List.setIfInBounds_toArray, List.set_cons_zero, List.set_cons_succ]
          repeat (first | go_big_quiet_step (fail))
          exact wpQuiet_nil rfl
        refine FlowB.AlChk.nil ?_
        refine FlowB.Walk.call rfl 63 #[.agg (sk.map (Value.int .u8)).toArray, .bool (decide (bitL i k = 1)), .pointer (some ⟨bx, 0, none⟩), .pointer (some ⟨bt, 0, none⟩)] (fun _ _ => True) (fun _ wz => ∃ v', Blk wz bx ((if decide (bitL i k = 1) then nodeL sk xk else nodeL xk sk).map (Value.int .u8)).toArray 23 ∧ Blk wz bt #[v'] 31 ∧ OwnR wz [bx, bt] base v' (([[2]] ++ tk) ++ [if decide (bitL i k = 1) then nodeX sk xk else nodeX xk sk])) (fun _ _ _ _ h _ => h) (fun _ _ _ ⟨v', h1, h2, h3⟩ hb => ⟨v', h1.below hb, h2.below hb, h3.below hb⟩) rfl (fun w1 hb1 hF1 hG1 => ⟨by go_simp; rfl, ?_⟩) ?_
        · refine (up_both _ xk sk bx bt base v ([[2]] ++ tk) w1 HXT.out HSd.out hG1.1 hG1.2.1 hG1.2.2 (by omega) (by omega) (by omega) (Nat.le_trans hbwwq hb1.size) hlen2 hgx hgt hgb (tab_butIn (Htab.out.below HBwq.out) hb1 (tab_all hgx hgt hgb hfm))).mono ?_
          rintro e w2 ⟨rfl, v', q1, q2, q3, q4⟩
          exact ⟨_, rfl, q4, trivial, v', q1, q2, q3⟩
        rintro vr w1 hb1 hF1 _
        apply Exists.intro
        refine ⟨fun w3 hb3 hF3 => wpQuiet_nil rfl, ?_⟩
        refine FlowB.AlChk.nil ?_
        refine FlowB.Walk.fin fun w6 h6 _ hG6 => ?_
        simp only [List.drop_succ_cons, List.drop_zero]
        obtain ⟨v', q1, q2, q3⟩ := hG6
        have hnT : ∀ n, n ≠ bx → n ≠ bt → n ∉ v.ownBlock.toList → n ∉ bx :: bt :: v.ownBlock.toList := fun n h1 h2 h3 hm => by
          rcases List.mem_cons.1 hm with h | hm
          · exact h1 h
          · rcases List.mem_cons.1 hm with h | hm
            · exact h2 h
            · exact h3 hm
        have HB6 := hid (h6.below HBwq.out HBwq.out.size (fun b hb => by
          rcases List.mem_cons.1 hb with h | hb
          · omega
          · rcases List.mem_cons.1 hb with h | hb
            · omega
            · have := hfm b hb; omega))
        have Kg6 := hid (h6.blk Kgwq.out (hnT _ (by omega) (by omega) hngg))
        have Ki6 := hid (h6.blk Kiwq.out (hnT _ (by omega) (by omega) (fun hm => by have := hfm _ hm; omega)))
        have Ks6 := hid (h6.blk Kswq.out (hnT _ (by omega) (by omega) (fun hm => by have := hfm _ hm; omega)))
        have HQ1 := hid q1
        have HQ2 := hid q2
        have HQ3 := hid q3
        have hs6 := Nat.le_trans hbwwq h6.size
        clear h6 q1 q2 q3 hfm hfz hngg hnT
        go_wp2_with fail
        exact ⟨⟨k + 1, (cutD (some ⟨g7, ro, none⟩) 1 (cap - q)), by omega, by first | rfl | simp, by rw [HNq.out, Nat.sub_add_eq, Nat.sub_add_eq], by rw [HNq.out]; exact HCO.out, by rw [HTS.out, HTX.out]; exact HQ1.out, ⟨_, HQ2.out, by rw [HTS.out, HRX.out, ← List.append_assoc]; exact HQ3.out⟩, hs6, Kg6.out, Ki6.out, Ks6.out, HB6.out⟩, by simp [intOf]; omega⟩
    · skip
      have hke : k = 256 := by omega
      have hcI : ¬ (k : Int) < 256 := by omega
      have hll : ([[2]] ++ trailF (emptyL 0) (treeS i d ns k)).length ≤ 1000 := by rw [List.length_append, trailF_length, treeS_length]; simp; omega
      rw [hke] at HOwr hll
      generalize hTT : [[2]] ++ trailF (emptyL 0) (treeS i d ns 256) = TT at *
      have HTT := hid hTT
      clear hTT
      obtain ⟨a9, c9, hv9, -⟩ := HOwr.out.texts
      subst hv9
      obtain ⟨N9, hN9⟩ : ∃ N, N = TT.length := ⟨_, rfl⟩
      rw [← hN9] at HOwr Ktwr
      have hl9 := HOwr.out.from
      clear hN9
      go_wp2_with fail
      refine (end_any bx bt base a9 N9 c9 TT _ Ktwr.out HOwr.out (by omega) hll).mono ?_
      rintro e w8 ⟨rfl, o8, r8⟩
      have HO8 := hid (r8.below HBwr.out hswr (fun b hb => by have := hl9 b hb; omega))
      have HP8 := hid o8
      clear o8 r8 hl9
      go_wp2_with fail
      go_returns
      exact ⟨.slice a9 N9 c9, rfl, [bx, bt], base, by omega, by have HR := HP8.out; rw [← HTT.out] at HR; unfold lastX lastD; simpa using HR, HO8.out⟩
end Go.Proofs.YtkakoiaahgchmaaDoor
namespace Go.Proofs.YtkakoiaahgchmaaDoor
set_option maxRecDepth 100000
open Go.ChangeShapes Go.WideShapes Go.ChangeAt Go.RowKit
/-- The trail of a side of a tree. -/
def treeT (p : Bool) (i c d : List Int) (ns : List (List Int)) : List (List Int) := ((lastX p i c) :: trailF (lastD p i c) (treeS i d ns 256)).reverse
/-- Is a side shown under a root? -/
def isSide (o i : List Int) (p : Bool) (c d : List Int) (ns : List (List Int)) : Bool := decide (knN d 256 = ns.length) && decide (climbK d i ns (lastD p i c) 256 = o)
/-- Do two sides say two things? -/
def unS (p : Bool) (c : List Int) (q : Bool) (e : List Int) : Bool := (p != q) || (p && decide (c ≠ e))
theorem lastD_sum (p : Bool) (i c : List Int) : lastD p i c = sumZ (lastX p i c) := by
  cases p with
  | false => unfold lastD lastX; rfl
  | true =>
    show leafE i c = sumZ (0 :: (i ++ c))
    unfold leafE
    rfl
/-- The trail of a side that is whole. -/
theorem treeTrail_good (p : Bool) (i c d : List Int) (ad : Option Addr) (len cap : Nat) (ns : List (List Int)) (w : World) (hi : Dg i) (hc : Dg c) (hd : Dg d) (hns : DigsAt w ad len cap ns) (tab : ShaTab w) (hn : knN d 256 = len) :
    Calls Tryd.prog 10 #[.agg (i.map (Value.int .u8)).toArray, .agg (sideC p c d (.slice ad len cap)).toArray] w fun e w' => ∃ v, e = .returned v ∧ ∃ Sx base, w.heap.size ≤ base ∧ OwnR w' Sx base v (treeT p i c d ns) ∧ Below w.heap.size w w' := by
  cases p with
  | false => exact treeTrail_good_false i c d ad len cap ns w hi hc hd hns tab hn
  | true => exact treeTrail_good_true i c d ad len cap ns w hi hc hd hns tab hn
end Go.Proofs.YtkakoiaahgchmaaDoor
namespace Go.Proofs.YtkakoiaahgchmaaDoor
set_option maxRecDepth 100000
open Go.ChangeShapes Go.WideShapes Go.ChangeAt Go.RowKit
/-- Texts in a value. -/
def TextsV (ts : List (List Int)) (v : Value) (w : World) : Prop := ∃ a n c, v = .slice a n c ∧ TextsAt w a n c ts
/-- Two texts, and true, in a value. -/
def PairV (X Y : List Int) (v : Value) (w : World) : Prop := ∃ x y, v = .tuple #[x, y, .bool true] ∧ TextV X x w ∧ TextV Y y w
end Go.Proofs.YtkakoiaahgchmaaDoor
namespace Go.Proofs.YtkakoiaahgchmaaDoor
set_option maxRecDepth 100000
open Go.ChangeShapes Go.WideShapes Go.ChangeAt Go.RowKit
theorem sideC_nodes' {p : Bool} {c d : List Int} {v : Value} {w : World} {b : Nat} {T : TypeId} (hc : Dg c) (hd : Dg d) (k : Blk w b (sideC p c d v).toArray T) : w.cell? ⟨b, 33 + 32, none⟩ = some v := sideC_nodes hc hd k
set_option maxHeartbeats 4000000 in
theorem open_side {H : Type} {enc : TypeId × Value → H} {W : World} {base : Nat} {v : Value} {d : DataW H} {p : List MemPlace} (hv : Value.okWide Tryd.prog W .any base 28 v) (h : DataW.Trod enc Tryd.prog W 0 (fun _ => true) true 28 v d p) :
    ∃ (b : Bool) (e k : List Int) (a : Option Addr) (n c : Nat) (ds : List (List Int)), v = .agg (sideC b e k (.slice a n c)).toArray ∧ Dg e ∧ Dg k ∧ DigsAt W a n c ds := by
  obtain ⟨f0, f1, f2, hu, t0, t1, t2, o0, o1, o2⟩ : ∃ f0 f1 f2 : Field, Tryd.prog.underlying 28 = some (.struct #[f0, f1, f2]) ∧ f0.type = 4 ∧ f1.type = 23 ∧ f2.type = 26 ∧ f0.offset = 0 ∧ f1.offset = 1 ∧ f2.offset = 33 := ⟨_, _, _, Tryd.underlying28, rfl, rfl, rfl, rfl, rfl, rfl⟩
  obtain ⟨g0, g1, hs, s0, s1, p0, p1⟩ : ∃ f0 f1 : Field, Tryd.prog.underlying 26 = some (.struct #[f0, f1]) ∧ f0.type = 23 ∧ f1.type = 24 ∧ f0.offset = 0 ∧ f1.offset = 32 := ⟨_, _, Tryd.underlying26, rfl, rfl, rfl, rfl⟩
  have c32 : Tryd.prog.cellsOf 23 = 32 := by kernel_rfl
  have c33 : Tryd.prog.cellsOf 26 = 33 := by kernel_rfl
  have c66 : Tryd.prog.cellsOf 28 = 66 := by kernel_rfl
  have c1 : Tryd.prog.cellsOf 5 = 1 := by kernel_rfl
  have cb : Tryd.prog.cellsOf 4 = 1 := by kernel_rfl
  have cd : Tryd.prog.cellsOf 24 = 1 := by kernel_rfl
  unfold Value.okWide at hv
  rw [hu] at hv
  obtain ⟨cs, rfl, hsz, _⟩ := hv
  obtain ⟨fuel, hf⟩ := h
  have hf : DataW.trod enc Tryd.prog W 0 (fun _ => true) true fuel 28 cs.toList = some (d, p) := hf
  obtain ⟨y0, y1, y2, n, _, hl, q0, q1, q2⟩ := Go.Deep.trod_struct3 hu hf
  rw [t0, o0, cb] at q0
  rw [t1, o1, c32] at q1
  rw [t2, o2, c33] at q2
  obtain ⟨z0, z1, m, _, hl2, r0, r1⟩ := trod_struct2 hs q2
  rw [s0, p0, c32] at r0
  rw [s1, p1, cd] at r1
  obtain ⟨b, e0, _⟩ := DataW.trod_bool Tryd.underlying4 q0
  obtain ⟨e, k1, e1⟩ := digest_cells Tryd.underlying23 Tryd.underlying5 c32 c1 q1
  obtain ⟨d0, k2, e2⟩ := digest_cells Tryd.underlying23 Tryd.underlying5 c32 c1 r0
  obtain ⟨a, m, c, ds, e3, k3⟩ := digs_cells Tryd.underlying24 Tryd.underlying23 Tryd.underlying5 c32 c1 r1
  refine ⟨b, e, d0, a, m, c, ds, ?_, k1, k2, k3⟩
  refine congrArg Value.agg ?_
  apply Array.ext'
  rw [c66] at hl
  rw [c33] at hl2
  unfold sideC prC
  rw [← e1, ← e2, ← e3]
  have h3 : cs.toList = (cs.toList.drop 0).take 1 ++ ((cs.toList.drop 1).take 32 ++ (cs.toList.drop 33).take 33) := by
    rw [List.take_of_length_le (l := cs.toList.drop 33) (by rw [List.length_drop]; omega)]
    rw [show cs.toList.drop 33 = (cs.toList.drop 1).drop 32 by rw [List.drop_drop], List.take_append_drop, List.drop_zero, List.take_append_drop]
  have h4 : (cs.toList.drop 33).take 33 = (((cs.toList.drop 33).take 33).drop 0).take 32 ++ (((cs.toList.drop 33).take 33).drop 32).take 1 := by
    rw [List.take_of_length_le (l := ((cs.toList.drop 33).take 33).drop 32) (by rw [List.length_drop]; omega), List.drop_zero, List.take_append_drop]
  rw [e0] at h3
  rw [← h4]
  exact h3
end Go.Proofs.YtkakoiaahgchmaaDoor
namespace Go.Proofs.YtkakoiaahgchmaaDoor
set_option maxRecDepth 100000
open Go.ChangeShapes Go.WideShapes Go.ChangeAt Go.RowKit
set_option maxHeartbeats 4000000 in
theorem textTrail_far (n i : Int) (a : Option Addr) (nt c : Nat) (ya : Option Addr) (yn yc : Nat) (w : World) (hf : ¬ (1 ≤ n ∧ n ≤ 200 ∧ 0 ≤ i ∧ i < n)) :
    Calls Tryd.prog 14 #[.int .i64 n, .int .i64 i, .slice a nt c, .slice ya yn yc] w fun e w' => e = .returned (.slice none 0 0) ∧ Below w.heap.size w w' := by
  have Hb := hid (Below.refl w.heap.size w)
  go_enter Tryd.func14, Tryd.ntmps14
  by_cases c0 : n < 1
  · go_wp2_with fail
    go_returns
    exact ⟨rfl, Hb.out⟩
  by_cases c1 : 200 < n
  · go_wp2_with fail
    go_returns
    exact ⟨rfl, Hb.out⟩
  by_cases c2 : i < 0
  · go_wp2_with fail
    go_returns
    exact ⟨rfl, Hb.out⟩
  have c3 : n ≤ i := by omega
  go_wp2_with fail
  go_returns
  exact ⟨rfl, Hb.out⟩
set_option maxHeartbeats 4000000 in
theorem textTrail_len (n i : Nat) (a : Option Addr) (nt c : Nat) (ya : Option Addr) (yn yc : Nat) (w : World) (hn1 : 1 ≤ n) (hn2 : n ≤ 200) (hin : i < n) (hl : yn ≠ (sidesF n n i).length) :
    Calls Tryd.prog 14 #[.int .i64 n, .int .i64 i, .slice a nt c, .slice ya yn yc] w fun e w' => e = .returned (.slice none 0 0) ∧ Below w.heap.size w w' := by
  have Hb := hid (Below.refl w.heap.size w)
  have h0 : ¬ (i : Int) < 0 := by omega
  have h1 : ¬ (n : Int) < 1 := by omega
  have h2 : ¬ (200 : Int) < n := by omega
  have h3 : ¬ (n : Int) ≤ i := by omega
  have HSD := hid (textSides_any n i)
  have hne : ¬ ((yn : Int) = (((sidesF n n i).reverse.length : Nat) : Int)) := by rw [List.length_reverse]; omega
  go_enter Tryd.func14, Tryd.ntmps14
  go_wp2_with fail
  refine (HSD.out _ (by omega) (by omega) (by omega)).mono ?_
  rintro e w1 ⟨v1, rfl, o1, b1⟩
  obtain ⟨ga, gc, rfl, hg1⟩ := BoolsAt.of_own o1
  generalize (sidesF n n i).reverse.length = L at *
  have HB1 := hid (Below.on Hb.out b1)
  clear o1 b1 hg1
  go_wp2_with fail
  go_returns
  exact ⟨rfl, HB1.out⟩
set_option maxHeartbeats 4000000 in
theorem growTrail_far (A : List Int) (m n : Int) (ya : Option Addr) (yn yc : Nat) (w : World) (_hA : Dg A) (hf : ¬ (1 ≤ m ∧ m ≤ n ∧ n ≤ 200)) :
    Calls Tryd.prog 15 #[.agg (A.map (Value.int .u8)).toArray, .int .i64 m, .int .i64 n, .slice ya yn yc] w fun e w' => e = .returned (.slice none 0 0) ∧ Below w.heap.size w w' := by
  have b1 := (Below.refl w.heap.size w).alloc (Nat.le_refl _) (.cells (A.map (Value.int .u8)).toArray 23 (0, 0))
  have Kz := hid (Blk.new (w := w) (n := w.heap.size) rfl (A.map (Value.int .u8)).toArray 23)
  have Hb := hid b1
  have hbz := b1.size
  have Hbs := hid (show w.heap.size + 1 = (w.alloc (.cells (A.map (Value.int .u8)).toArray 23 (0, 0))).heap.size by simp only [World.size_alloc])
  clear b1 
  go_enter Tryd.func15, Tryd.ntmps15
  by_cases c0 : m < 1
  · go_wp2_with fail
    go_returns
    exact ⟨rfl, Hb.out⟩
  by_cases c1 : n < m
  · go_wp2_with fail
    go_returns
    exact ⟨rfl, Hb.out⟩
  have c2 : 200 < n := by omega
  go_wp2_with fail
  go_returns
  exact ⟨rfl, Hb.out⟩
set_option maxHeartbeats 4000000 in
theorem growTrail_lenp (A : List Int) (m n : Nat) (ya : Option Addr) (yn yc : Nat) (ds : List (List Int)) (w : World) (hA : Dg A) (hm1 : 1 ≤ m) (hmn : m ≤ n) (hn2 : n ≤ 200) (hW : DigsAt w ya yn yc ds) (hl : ds.length ≠ (gsF n m n false).1.length) (hcut : (gsF n m n false).2 = false) :
    Calls Tryd.prog 15 #[.agg (A.map (Value.int .u8)).toArray, .int .i64 m, .int .i64 n, .slice ya yn yc] w fun e w' => e = .returned (.slice none 0 0) ∧ Below w.heap.size w w' := by
  have b1 := (Below.refl w.heap.size w).alloc (Nat.le_refl _) (.cells (A.map (Value.int .u8)).toArray 23 (0, 0))
  have b2 := b1.alloc b1.size (.cells (byteCells 32 []) 23 (0, 0))
  have Kz := hid ((Blk.new (w := w) (n := w.heap.size) rfl (A.map (Value.int .u8)).toArray 23).old (.cells (byteCells 32 []) 23 (0, 0)))
  have Kx := hid (Blk.new (w := (w.alloc (.cells (A.map (Value.int .u8)).toArray 23 (0, 0)))) (n := w.heap.size + 1) (by simp only [World.size_alloc]) (byteCells 32 []) 23)
  have Hb := hid b2
  have hbz := b2.size
  have Hbs := hid (show w.heap.size + 1 + 1 = ((w.alloc (.cells (A.map (Value.int .u8)).toArray 23 (0, 0))).alloc (.cells (byteCells 32 []) 23 (0, 0))).heap.size by simp only [World.size_alloc])
  clear b1 b2 
  have Kz1 := hid (Blk.new (w := w) (n := w.heap.size) rfl (A.map (Value.int .u8)).toArray 23)
  have HW := hid hW
  have hyl := hW.length
  have h0 : ¬ (m : Int) < 1 := by omega
  have h1 : ¬ (n : Int) < (m : Int) := by omega
  have h2 : ¬ (200 : Int) < n := by omega
  have GS := hid (fun W : World => growSides_any m n W hm1 hmn hn2)
  rw [hcut] at GS
  clear hW
  go_enter Tryd.func15, Tryd.ntmps15
  go_wp2_with (first
     | (refine wpList_load_blk rfl 23 _ rfl (w.heap.size) rfl _ 23 Kz1.out _ Tryd.underlying23 rfl 32 size_digest hA.size ?_)
     | (
        refine wpList_store_blk rfl 23 _ _ rfl (w.heap.size + 1) (A.map (Value.int .u8)).toArray rfl rfl _ 23 Kx.out 32 size_digest zsize hA.size (ints_one _ _) ?_
        intro w1 hbw1 hkw1
        have HBw1 := hid (hbw1.below Hb.out Hb.out.size (by omega))
        have hsw1 := HBw1.out.size
        have Kzw1 := hid (hbw1.blk Kz.out (by have := Kz.out.lt; omega))
        have Kxw1 := hid hkw1
        clear hbw1 hkw1))
  refine (GS.out _).mono ?_
  rintro e w3 ⟨v1, rfl, o1, b1⟩
  obtain ⟨ga, gc, rfl, hg1⟩ := BoolsAt.of_own o1
  have hne : yn ≠ (gsF n m n false).1.reverse.length := by rw [List.length_reverse]; omega
  generalize (gsF n m n false).1.reverse.length = L at *
  have HBw3 := hid (Below.on HBw1.out b1)
  have hsw3 := HBw3.out.size
  have Kzw3 := hid (Kzw1.out.below b1)
  have Kxw3 := hid (Kxw1.out.below b1)
  clear o1 b1 hg1
  have hne2 : ¬ ((yn : Int) = ((L : Nat) : Int)) := by omega
  go_wp2_with fail
  go_returns
  exact ⟨rfl, HBw3.out⟩
set_option maxHeartbeats 4000000 in
theorem growTrail_none (A : List Int) (m n : Nat) (ya : Option Addr) (yn yc : Nat) (ds : List (List Int)) (w : World) (hA : Dg A) (hm1 : 1 ≤ m) (hmn : m ≤ n) (hn2 : n ≤ 200) (hW : DigsAt w ya yn yc ds) (hl : yn = 0) (hcut : (gsF n m n false).2 = true) :
    Calls Tryd.prog 15 #[.agg (A.map (Value.int .u8)).toArray, .int .i64 m, .int .i64 n, .slice ya yn yc] w fun e w' => e = .returned (.slice none 0 0) ∧ Below w.heap.size w w' := by
  have b1 := (Below.refl w.heap.size w).alloc (Nat.le_refl _) (.cells (A.map (Value.int .u8)).toArray 23 (0, 0))
  have b2 := b1.alloc b1.size (.cells (byteCells 32 []) 23 (0, 0))
  have Kz := hid ((Blk.new (w := w) (n := w.heap.size) rfl (A.map (Value.int .u8)).toArray 23).old (.cells (byteCells 32 []) 23 (0, 0)))
  have Kx := hid (Blk.new (w := (w.alloc (.cells (A.map (Value.int .u8)).toArray 23 (0, 0)))) (n := w.heap.size + 1) (by simp only [World.size_alloc]) (byteCells 32 []) 23)
  have Hb := hid b2
  have hbz := b2.size
  have Hbs := hid (show w.heap.size + 1 + 1 = ((w.alloc (.cells (A.map (Value.int .u8)).toArray 23 (0, 0))).alloc (.cells (byteCells 32 []) 23 (0, 0))).heap.size by simp only [World.size_alloc])
  clear b1 b2 
  have Kz1 := hid (Blk.new (w := w) (n := w.heap.size) rfl (A.map (Value.int .u8)).toArray 23)
  have HW := hid hW
  have hyl := hW.length
  subst hl
  have h0 : ¬ (m : Int) < 1 := by omega
  have h1 : ¬ (n : Int) < (m : Int) := by omega
  have h2 : ¬ (200 : Int) < n := by omega
  have GS := hid (fun W : World => growSides_any m n W hm1 hmn hn2)
  rw [hcut] at GS
  clear hW
  go_enter Tryd.func15, Tryd.ntmps15
  go_wp2_with (first
     | (refine wpList_load_blk rfl 23 _ rfl (w.heap.size) rfl _ 23 Kz1.out _ Tryd.underlying23 rfl 32 size_digest hA.size ?_)
     | (
        refine wpList_store_blk rfl 23 _ _ rfl (w.heap.size + 1) (A.map (Value.int .u8)).toArray rfl rfl _ 23 Kx.out 32 size_digest zsize hA.size (ints_one _ _) ?_
        intro w1 hbw1 hkw1
        have HBw1 := hid (hbw1.below Hb.out Hb.out.size (by omega))
        have hsw1 := HBw1.out.size
        have Kzw1 := hid (hbw1.blk Kz.out (by have := Kz.out.lt; omega))
        have Kxw1 := hid hkw1
        clear hbw1 hkw1))
  refine (GS.out _).mono ?_
  rintro e w3 ⟨v1, rfl, o1, b1⟩
  obtain ⟨ga, gc, rfl, hg1⟩ := BoolsAt.of_own o1
  have hne : True := by trivial
  generalize (gsF n m n false).1.reverse.length = L at *
  have HBw3 := hid (Below.on HBw1.out b1)
  have hsw3 := HBw3.out.size
  have Kzw3 := hid (Kzw1.out.below b1)
  have Kxw3 := hid (Kxw1.out.below b1)
  clear o1 b1 hg1
  go_wp2_with fail
  go_returns
  exact ⟨rfl, HBw3.out⟩
set_option maxHeartbeats 4000000 in
theorem growTrail_lenc (A : List Int) (m n : Nat) (ya : Option Addr) (yn yc : Nat) (ds : List (List Int)) (w : World) (hA : Dg A) (hm1 : 1 ≤ m) (hmn : m ≤ n) (hn2 : n ≤ 200) (hW : DigsAt w ya yn yc ds) (hl0 : ds.length ≠ 0) (hl : ds.length ≠ (gsF n m n false).1.length + 1) (hcut : (gsF n m n false).2 = true) :
    Calls Tryd.prog 15 #[.agg (A.map (Value.int .u8)).toArray, .int .i64 m, .int .i64 n, .slice ya yn yc] w fun e w' => e = .returned (.slice none 0 0) ∧ Below w.heap.size w w' := by
  have b1 := (Below.refl w.heap.size w).alloc (Nat.le_refl _) (.cells (A.map (Value.int .u8)).toArray 23 (0, 0))
  have b2 := b1.alloc b1.size (.cells (byteCells 32 []) 23 (0, 0))
  have Kz := hid ((Blk.new (w := w) (n := w.heap.size) rfl (A.map (Value.int .u8)).toArray 23).old (.cells (byteCells 32 []) 23 (0, 0)))
  have Kx := hid (Blk.new (w := (w.alloc (.cells (A.map (Value.int .u8)).toArray 23 (0, 0)))) (n := w.heap.size + 1) (by simp only [World.size_alloc]) (byteCells 32 []) 23)
  have Hb := hid b2
  have hbz := b2.size
  have Hbs := hid (show w.heap.size + 1 + 1 = ((w.alloc (.cells (A.map (Value.int .u8)).toArray 23 (0, 0))).alloc (.cells (byteCells 32 []) 23 (0, 0))).heap.size by simp only [World.size_alloc])
  clear b1 b2 
  have Kz1 := hid (Blk.new (w := w) (n := w.heap.size) rfl (A.map (Value.int .u8)).toArray 23)
  have HW := hid hW
  have hyl := hW.length
  have h0 : ¬ (m : Int) < 1 := by omega
  have h1 : ¬ (n : Int) < (m : Int) := by omega
  have h2 : ¬ (200 : Int) < n := by omega
  have GS := hid (fun W : World => growSides_any m n W hm1 hmn hn2)
  rw [hcut] at GS
  have hy1 : 1 ≤ yn := by omega
  have hy0 : ¬ (yn : Int) = 0 := by omega
  obtain ⟨g0, go, rfl, hg0, hgc⟩ := hW.at_ (by omega)
  have Hc0 := hid (hgc 0 (by omega))
  have HC := hid (hW.cut 1 yn (by omega) (Nat.le_refl _))
  have HSd := hid (hW.get (show 0 < yn by omega))
  clear hgc
  clear hW
  go_enter Tryd.func15, Tryd.ntmps15
  go_wp2_with (first
     | (refine wpList_load_blk rfl 23 _ rfl (w.heap.size) rfl _ 23 Kz1.out _ Tryd.underlying23 rfl 32 size_digest hA.size ?_)
     | (
        refine wpList_store_blk rfl 23 _ _ rfl (w.heap.size + 1) (A.map (Value.int .u8)).toArray rfl rfl _ 23 Kx.out 32 size_digest zsize hA.size (ints_one _ _) ?_
        intro w1 hbw1 hkw1
        have HBw1 := hid (hbw1.below Hb.out Hb.out.size (by omega))
        have hsw1 := HBw1.out.size
        have Kzw1 := hid (hbw1.blk Kz.out (by have := Kz.out.lt; omega))
        have Kxw1 := hid hkw1
        clear hbw1 hkw1))
  refine (GS.out _).mono ?_
  rintro e w3 ⟨v1, rfl, o1, b1⟩
  obtain ⟨ga, gc, rfl, hg1⟩ := BoolsAt.of_own o1
  have hne : yn - 1 ≠ (gsF n m n false).1.reverse.length := by rw [List.length_reverse]; omega
  generalize (gsF n m n false).1.reverse.length = L at *
  have HBw3 := hid (Below.on HBw1.out b1)
  have hsw3 := HBw3.out.size
  have Kzw3 := hid (Kzw1.out.below b1)
  have Kxw3 := hid (Kxw1.out.below b1)
  clear o1 b1 hg1
  go_wp2_with fail
  generalize hS0 : ds.getD 0 [] = S0 at *
  have hwx : w.heap.size + 1 < w3.heap.size := Kxw3.out.lt
  refine FlowB.wp_region_butIn [w.heap.size + 1] (fun wz => Blk wz (w.heap.size + 1) (A.map (Value.int .u8)).toArray 23) 6 [0, 1, 2, 3, 4] [] [(.c 5, [], [])] (by kernel_rfl) (by kernel_rfl) Kxw3.out (fun _ _ h hb => h.below hb) ?_
  apply Exists.intro
  refine ⟨fun w0 hb0 hF0 => ?_, ?_⟩
  · skip
    have yr : ∀ w', (∃ x : Ext w0, w' = x.at_) → w'.rangeAt g0 (go + 0 * 32) (S0.map (Value.int .u8)) := fun w' ⟨x, hx⟩ => by
      rw [hx]
      exact rangeAt_below (w := w0) (fun j v hv => by
        have h1 := HBw3.out
        rw [show w0.cell? ⟨g0, go + 0 * 32 + j, none⟩ = w.cell? ⟨g0, go + 0 * 32 + j, none⟩ from (hb0.below HBw3.out h1.size (by intro b hb; simp only [List.mem_singleton] at hb; omega)).cell (p := ⟨g0, go + 0 * 32 + j, none⟩) hg0]
        exact Hc0.out j v hv) (by have := hb0.size; have := HBw3.out.size; omega) x.same
    simp only [pick, List.getElem?_toArray, List.getElem?_cons_succ, List.getElem?_cons_zero, Option.toList_some, List.cons_append, List.nil_append]
    repeat (first | (go_big_quiet_want; refine quiet_index_digs 24 _ _ rfl Tryd.underlying24 size_digest g0 go yn yc rfl _ _ rfl 0 rfl (by omega) ?_; go_big_quiet_on; simp only [Act.put, List.setIfInBounds_toArray, List.set_cons_zero, List.set_cons_succ]) | (go_big_quiet_want; refine quiet_load_mid 23 _ rfl g0 (go + 0 * 32) rfl _ yr _ Tryd.underlying23 rfl (by rw [List.length_map, HSd.out.len]; exact size_digest) ?_; go_big_quiet_on; simp only [Act.put, List.setIfInBounds_toArray, List.set_cons_zero, List.set_cons_succ]) | (go_big_quiet_want; refine quiet_cut_l _ _ rfl (some ⟨g0, go, none⟩) yn yc 1 _ rfl rfl rfl (by omega) ?_; go_big_quiet_on; simp only [Act.put, List.setIfInBounds_toArray, List.set_cons_zero, List.set_cons_succ]) | go_big_quiet_step (fail))
    exact wpQuiet_nil rfl
  refine FlowB.AlChk.nil ?_
  refine FlowB.Walk.skips rfl (fun wz => Blk wz (w.heap.size + 1) (S0.map (Value.int .u8)).toArray 23) (fun _ _ h hb => h.below hb) rfl (fun w1 hb1 hF1 hG1 => ?_) ?_
  · exact FlowB.store_skips 23 _ _ rfl (w.heap.size + 1) (S0.map (Value.int .u8)).toArray rfl rfl _ 23 hG1 32 size_digest hA.size HSd.out.size (ints_one _ _) (by simp) (fun w2 h2 h3 => h3)
  intro w1 hb1 hF1
  apply Exists.intro
  refine ⟨fun w2 hb2 hF2 => wpQuiet_nil rfl, ?_⟩
  refine FlowB.AlChk.nil ?_
  refine FlowB.Walk.fin fun w4 h4 _ hG4 => ?_
  simp only [List.drop_succ_cons, List.drop_zero]
  have HBw4 := hid (h4.below HBw3.out HBw3.out.size (by intro b hb; simp only [List.mem_singleton] at hb; omega))
  clear h4 hG4 hb1 hF1
  have hne2 : ¬ (((yn - 1 : Nat) : Int) = ((L : Nat) : Int)) := by omega
  have hne3 : ¬ ((yn : Int) - 1 = ((L : Nat) : Int)) := by omega
  go_wp2_with fail
  go_returns
  exact ⟨rfl, HBw4.out⟩
end Go.Proofs.YtkakoiaahgchmaaDoor
namespace Go.Proofs.YtkakoiaahgchmaaDoor
set_option maxRecDepth 100000
open Go.ChangeShapes Go.WideShapes Go.ChangeAt Go.RowKit
/-- A row of texts is copied behind a text: the new row is the call's own. -/
theorem run_append_ahead {w : World} {b : Nat} {ta : Option Addr} {tl tc : Nat} {t : List Int} {a : Option Addr} {n c : Nat} {ts : List (List Int)} (hk : Blk w b #[.slice ta tl tc] 29) (hT : TextAt w ta tl tc t) (hR : TextsAt w a n c ts) (hn : n ≤ 1000) :
    ∃ a' c' w', (Builtin.append_ #[31, 31] 31 #[.slice (some ⟨b, 0, none⟩) 1 1, .slice a n c]).run Tryd.prog w = .ok (.slice a' (n + 1) c') w' ∧ TextsAt w' a' (n + 1) c' (t :: ts) ∧ Below w.heap.size w w' := by
  obtain ⟨i0, hi, hz0, hz1, hz2⟩ := info_parts info_text
  have hlen := hR.length
  rcases Nat.eq_zero_or_pos n with h0 | h0
  · subst h0
    have e : ts = [] := List.length_eq_zero_iff.1 hlen
    subst e
    refine ⟨some ⟨b, 0, none⟩, 1, w, ?_, TextsAt.of_blk hk rfl (Nat.le_refl _) (by omega) (fun j hj => ?_), Below.refl _ _⟩
    · cases a with
      | none => simp [Builtin.append_, run_underlying Tryd.underlying31, sizeOf, typeInfo, hi, Builtin.lenOf, Builtin.firstCells, storeCells]
      | some p =>
        have := run_append_room_cells (P := Tryd.prog) w 31 31 29 i0 Tryd.underlying31 hi b 0 1 1 p 0 c [] (by simp) (by simp) (by simp) (by omega) (by simp) (by simp)
        simpa [World.setCells] using this
    · have : j = 0 := by omega
      subst this
      exact ⟨ta, tl, tc, rfl, hT⟩
  · obtain ⟨l1, l2, l3, l4 | ⟨x, o, rfl, hx, hc⟩⟩ := hR
    · omega
    · have hex : ∀ j : Nat, ∃ v : Value, j < n → w.cell? ⟨x, o + j, none⟩ = some v ∧ ∃ a' l' c', v = .slice a' l' c' ∧ TextAt w a' l' c' (ts.getD j []) := fun j => by
        by_cases h : j < n
        · obtain ⟨a', l', c', q1, q2⟩ := hc j h
          exact ⟨_, fun _ => ⟨q1, a', l', c', rfl, q2⟩⟩
        · exact ⟨.bool false, fun h2 => absurd h2 h⟩
      obtain ⟨f, hf⟩ := Classical.axiomOfChoice hex
      have hfl : ((List.range n).map f).length = n := by simp
      obtain ⟨v', w', h1, h2, h3⟩ := run_append_arg_grows (P := Tryd.prog) w 31 31 29 i0 _ 1 24 Tryd.underlying31 hi hz0 hz1 hz2 rfl (by omega) ⟨b, 0, none⟩ 1 1 [.slice ta tl tc] rfl
        (fun j u hj => by
          have hj0 : j = 0 := by have := (List.getElem?_eq_some_iff.1 hj).1; simp at this; omega
          subst hj0
          rw [Addr.add_mid, hk.cell]
          simpa using hj) ⟨x, o, none⟩ n c ((List.range n).map f) (by rw [hfl, Nat.mul_one])
        (fun j u hj => by
          have hjn : j < n := by have := (List.getElem?_eq_some_iff.1 hj).1; rw [hfl] at this; exact this
          rw [List.getElem?_map, List.getElem?_range hjn] at hj
          cases hj
          rw [Addr.add_lit]; exact (hf j hjn).1) (by omega) (by unfold maxLen; omega) (by omega)
      have hb : Below w.heap.size w w' := ⟨h3.os, h3.tape, h3.output, h3.size, fun k hk => h3.block k (by omega) (fun e => by cases e)⟩
      have h2' : OwnV w' w.heap.size 29 v' (.slice ta tl tc :: (List.range n).map f) := by
        refine ⟨?_, fun u hu => ?_⟩
        · have e : (Value.slice ta tl tc :: (List.range n).map f).length = 1 + n := by rw [List.length_cons, hfl]; omega
          rw [e]; exact h2
        · rcases List.mem_cons.1 hu with h | h
          · rw [h]; rfl
          · obtain ⟨j, hj, rfl⟩ := List.mem_map.1 h
            obtain ⟨_, a', l', c', e, _⟩ := hf j (List.mem_range.1 hj)
            rw [e]; rfl
      obtain ⟨a', c', rfl, q1, q2, q3, q4, q5⟩ := h2'.slice
      have el : (Value.slice ta tl tc :: (List.range n).map f).length = n + 1 := by rw [List.length_cons, hfl]
      rw [el] at h1 q3 q5
      refine ⟨a', c', w', h1, ?_, hb⟩
      refine ⟨by simp [hlen], q3, q4, ?_⟩
      cases a' with
      | none => exact absurd (q2 rfl) (by simp)
      | some p =>
        obtain ⟨g, rfl, hg⟩ := q1 p rfl
        obtain ⟨q6, q7⟩ := q5 g rfl
        refine .inr ⟨g, 0, rfl, q6, fun j hj => ?_⟩
        rw [Nat.zero_add, q7 j hj]
        cases j with
        | zero => exact ⟨ta, tl, tc, rfl, hT.below hb⟩
        | succ j =>
          obtain ⟨_, a2, l2, c2, e, q8⟩ := hf j (by omega)
          refine ⟨a2, l2, c2, ?_, q8.below hb⟩
          rw [List.getElem?_cons_succ, List.getElem?_map, List.getElem?_range (by omega)]
          rw [← e]; rfl
end Go.Proofs.YtkakoiaahgchmaaDoor
