/-
  Put together, as far as wanted: DyC DyD DyE DyF DyG DyH.
-/
import Derived.Test.YtpinamdgbijjlaaGreatDoorPD6
namespace Go.Proofs.YtpinamdgbijjlaaGreatDoor
set_option maxRecDepth 100000
open Go.ChangeShapes Go.WideShapes Go.ChangeAt Go.RowKit
theorem splice_mid {α : Type} (x y z y' : List α) (o : Nat) (hx : x.length = o) (h : y'.length = y.length) : splice (x ++ (y ++ z)) o y' = x ++ (y' ++ z) := by
  subst hx
  unfold splice
  rw [List.take_left' rfl, h, show x ++ (y ++ z) = (x ++ y) ++ z by simp, List.drop_left' (by rw [List.length_append])]
theorem splice_head {α : Type} (y z y' : List α) (h : y'.length = y.length) : splice (y ++ z) 0 y' = y' ++ z := by
  have := splice_mid [] y z y' 0 rfl h
  simpa using this
def u8V (d : List Int) : List Value := d.map (Value.int .u8)
theorem u8V_length {d : List Int} (h : Dg d) : (u8V d).length = 32 := by unfold u8V; rw [List.length_map, h.len]
/-- what a directory is made with -/
def cfgL (L V b : Int) (ma na : List Int) : List Value := [.int .i64 L, .int .i64 V] ++ ([.int .i64 b] ++ (u8V ma ++ u8V na))
theorem cfgL_length {L V b : Int} {ma na : List Int} (h1 : Dg ma) (h2 : Dg na) : (cfgL L V b ma na).length = 67 := by
  unfold cfgL; simp only [List.length_append, u8V_length h1, u8V_length h2, List.length_cons, List.length_nil]
def epL (na : List Int) : List Value := u8V na ++ [.slice none 0 0, .slice none 0 0]
theorem epL_length {na : List Int} (h : Dg na) : (epL na).length = 34 := by unfold epL; simp only [List.length_append, u8V_length h, List.length_cons, List.length_nil]
def arL (d : Option Addr) (used : Int) : List Value := [.pointer d, .int .i64 used]
/-- a directory -/
def dirL (e c : List Value) (s q : Option Addr) (a : List Value) : List Value := e ++ (c ++ ([.pointer s] ++ ([.pointer q] ++ (a ++ [.slice none 0 0, .bool false]))))
theorem dirL_length {e c a : List Value} {s q : Option Addr} (h1 : e.length = 34) (h2 : c.length = 67) (h3 : a.length = 2) : (dirL e c s q a).length = 107 := by
  unfold dirL; simp only [List.length_append, h1, h2, h3, List.length_cons, List.length_nil]
theorem size_config : (Tryz.prog.info? 27).map (·.size) = some 67 := by kernel_rfl
theorem size_area : (Tryz.prog.info? 81).map (·.size) = some 2 := by kernel_rfl
def zEp : List Value := epL zD
def zCfg : List Value := cfgL 0 0 0 zD zD
def zDirL : List Value := dirL zEp zCfg none none (arL none 0)
theorem build_epochs (na : List Int) (h : Dg na) (w : World) : (Instr.build 79 #[(0, .agg (na.map (Value.int .u8)).toArray)]).run Tryz.prog w = .ok (.agg (epL na).toArray) w := by
  refine run_build w _ _ _ ?_
  obtain ⟨i0, hi, hz0⟩ := Option.map_eq_some_iff.1 (show (Tryz.prog.info? 79).map (·.zero) = some (some (.agg zEp.toArray)) by kernel_rfl)
  obtain ⟨fields, hu, hq⟩ : ∃ fields, Tryz.prog.underlying 79 = some (.struct fields) ∧ fields.toList.mapM (fun f => (Tryz.prog.info? f.type).map fun i => (f.offset, i.size)) = some [(0, 32), (32, 1), (33, 1)] := ⟨_, Tryz.underlying79, by kernel_rfl⟩
  have hz : (Value.agg zEp.toArray).cells = zEp.toArray := rfl
  unfold Program.built
  simp only [hi, hu, hz0, hq, hz]
  have hs : (Value.agg (na.map (Value.int .u8)).toArray).cells.size = 32 := h.size
  have t0 : splice zEp.toArray.toList 0 (Value.agg (na.map (Value.int .u8)).toArray).cells.toList = epL na := by
    show splice (u8V zD ++ [.slice none 0 0, .slice none 0 0]) 0 (u8V na) = _
    exact splice_head _ _ _ (by rw [u8V_length h, u8V_length Dg.zero])
  rw [fill_part _ _ 0 0 _ _ (by rw [hs]; rfl) (by rw [hs]; decide), t0, Instr.fill]
theorem build_area (d : Option Addr) (w : World) : (Instr.build 81 #[(0, .pointer d)]).run Tryz.prog w = .ok (.agg (arL d 0).toArray) w := by
  refine run_build w _ _ _ ?_
  obtain ⟨i0, hi, hz0⟩ := Option.map_eq_some_iff.1 (show (Tryz.prog.info? 81).map (·.zero) = some (some (.agg (arL none 0).toArray)) by kernel_rfl)
  obtain ⟨fields, hu, hq⟩ : ∃ fields, Tryz.prog.underlying 81 = some (.struct fields) ∧ fields.toList.mapM (fun f => (Tryz.prog.info? f.type).map fun i => (f.offset, i.size)) = some [(0, 1), (1, 1)] := ⟨_, Tryz.underlying81, by kernel_rfl⟩
  have hz : (Value.agg (arL none 0).toArray).cells = (arL none 0).toArray := rfl
  unfold Program.built
  simp only [hi, hu, hz0, hq, hz]
  have t0 : splice (arL none 0).toArray.toList 0 (Value.pointer d).cells.toList = arL d 0 := rfl
  rw [fill_part _ _ 0 0 _ _ rfl (by show 0 + 1 ≤ 2; omega), t0, Instr.fill]
theorem build_dir (e c a : List Value) (s q : Option Addr) (h1 : e.length = 34) (h2 : c.length = 67) (h3 : a.length = 2) (w : World) : (Instr.build 83 #[(0, .agg e.toArray), (1, .agg c.toArray), (2, .pointer s), (3, .pointer q), (4, .agg a.toArray)]).run Tryz.prog w = .ok (.agg (dirL e c s q a).toArray) w := by
  refine run_build w _ _ _ ?_
  obtain ⟨i0, hi, hz0⟩ := Option.map_eq_some_iff.1 (show (Tryz.prog.info? 83).map (·.zero) = some (some (.agg zDirL.toArray)) by kernel_rfl)
  obtain ⟨fields, hu, hq⟩ : ∃ fields, Tryz.prog.underlying 83 = some (.struct fields) ∧ fields.toList.mapM (fun f => (Tryz.prog.info? f.type).map fun i => (f.offset, i.size)) = some [(0, 34), (34, 67), (101, 1), (102, 1), (103, 2), (105, 1), (106, 1)] := ⟨_, Tryz.underlying83, by kernel_rfl⟩
  have hz : (Value.agg zDirL.toArray).cells = zDirL.toArray := rfl
  unfold Program.built
  simp only [hi, hu, hz0, hq, hz]
  have g1 : zEp.length = 34 := epL_length Dg.zero
  have g2 : zCfg.length = 67 := cfgL_length Dg.zero Dg.zero
  have g3 : (arL none 0).length = 2 := rfl
  have hse : (Value.agg e.toArray).cells.size = 34 := by show e.toArray.size = 34; rw [List.size_toArray, h1]
  have hsc : (Value.agg c.toArray).cells.size = 67 := by show c.toArray.size = 67; rw [List.size_toArray, h2]
  have hsa : (Value.agg a.toArray).cells.size = 2 := by show a.toArray.size = 2; rw [List.size_toArray, h3]
  have q0 : ∀ e' c' a' : List Value, ∀ s' q' : Option Addr, e'.length = 34 → c'.length = 67 → a'.length = 2 → (dirL e' c' s' q' a').toArray.size = 107 := fun e' c' a' s' q' x y z => by rw [List.size_toArray, dirL_length x y z]
  have t0 : splice zDirL.toArray.toList 0 (Value.agg e.toArray).cells.toList = dirL e zCfg none none (arL none 0) := by
    show splice (dirL zEp zCfg none none (arL none 0)) 0 e = _
    unfold dirL
    exact splice_head _ _ _ (by rw [h1, g1])
  have t1 : splice (dirL e zCfg none none (arL none 0)) 34 (Value.agg c.toArray).cells.toList = dirL e c none none (arL none 0) := by
    show splice (dirL e zCfg none none (arL none 0)) 34 c = _
    unfold dirL
    exact splice_mid _ _ _ _ 34 h1 (by rw [h2, g2])
  have t2 : splice (dirL e c none none (arL none 0)) 101 (Value.pointer s).cells.toList = dirL e c s none (arL none 0) := by
    show splice (dirL e c none none (arL none 0)) 101 [.pointer s] = _
    unfold dirL
    rw [← List.append_assoc e c, ← List.append_assoc e c]
    exact splice_mid _ _ _ _ 101 (by rw [List.length_append, h1, h2]) rfl
  have t3 : splice (dirL e c s none (arL none 0)) 102 (Value.pointer q).cells.toList = dirL e c s q (arL none 0) := by
    show splice (dirL e c s none (arL none 0)) 102 [.pointer q] = _
    unfold dirL
    rw [← List.append_assoc e c, ← List.append_assoc e c, ← List.append_assoc (e ++ c), ← List.append_assoc (e ++ c)]
    exact splice_mid _ _ _ _ 102 (by rw [List.length_append, List.length_append, h1, h2]; rfl) rfl
  have t4 : splice (dirL e c s q (arL none 0)) 103 (Value.agg a.toArray).cells.toList = dirL e c s q a := by
    show splice (dirL e c s q (arL none 0)) 103 a = _
    unfold dirL
    rw [← List.append_assoc e c, ← List.append_assoc e c, ← List.append_assoc (e ++ c), ← List.append_assoc (e ++ c), ← List.append_assoc (e ++ c ++ [Value.pointer s]) [Value.pointer q], ← List.append_assoc (e ++ c ++ [Value.pointer s]) [Value.pointer q]]
    exact splice_mid _ _ _ _ 103 (by rw [List.length_append, List.length_append, List.length_append, h1, h2]; rfl) (by rw [h3]; rfl)
  rw [fill_part _ _ 0 0 _ _ (by rw [hse]; rfl) (by rw [hse]; decide), t0]
  rw [fill_part _ _ 1 34 _ _ (by rw [hsc]; rfl) (by rw [hsc, q0 _ _ _ _ _ h1 g2 g3]; omega), List.toList_toArray, t1]
  rw [fill_part _ _ 2 101 _ _ rfl (by rw [q0 _ _ _ _ _ h1 h2 g3]; show _ + 1 ≤ 107; omega), List.toList_toArray, t2]
  rw [fill_part _ _ 3 102 _ _ rfl (by rw [q0 _ _ _ _ _ h1 h2 g3]; show _ + 1 ≤ 107; omega), List.toList_toArray, t3]
  rw [fill_part _ _ 4 103 _ _ (by rw [hsa]; rfl) (by rw [hsa, q0 _ _ _ _ _ h1 h2 g3]; omega), List.toList_toArray, t4, Instr.fill]
/-- a part of a block, as it lies in its list -/
theorem range_mid {w : World} {b : Nat} {T : TypeId} {x y z : List Value} {o : Nat} (k : Blk w b (x ++ (y ++ z)).toArray T) (hx : x.length = o) : w.rangeAt b o y := fun j v hv => by
  subst hx
  have hj : j < y.length := (List.getElem?_eq_some_iff.1 hv).1
  rw [k.cell, List.getElem?_toArray, List.getElem?_append_right (by omega), List.getElem?_append_left (by omega), Nat.add_sub_cancel_left]
  exact hv
end Go.Proofs.YtpinamdgbijjlaaGreatDoor
namespace Go.Proofs.YtpinamdgbijjlaaGreatDoor
set_option maxRecDepth 100000
open Go.ChangeShapes Go.WideShapes Go.ChangeAt Go.RowKit
set_option maxHeartbeats 4000000 in
theorem left_any (w : World) (p bb z n : Nat) (B : List Int) (wv : Value) (on set : Bool) (af : Int) (kv : Value) (u : Int) (hd : DkAt w p bb z n B wv on set af kv) (hn : 5 ≤ n) (hu : 0 ≤ u ∧ u < 1000000) :
    Calls Tryz.prog 36 #[.agg #[.pointer (some ⟨p, 0, none⟩), .int .i64 u]] w fun e w' => e = .returned (.int .i64 (((n : Int) - 4) * z - u)) ∧ Below w.heap.size w w' := by
  have hn2 := hd.n2
  have hz2 := hd.z2
  have b1 := (Below.refl w.heap.size w).alloc (Nat.le_refl _) (.cells #[.pointer (some ⟨p, 0, none⟩), .int .i64 u] 81 (0, 0))
  have K0 := hid (Blk.new (w := w) (n := w.heap.size) rfl #[.pointer (some ⟨p, 0, none⟩), .int .i64 u] 81)
  have HD := hid (hd.below b1)
  have Hb := hid b1
  clear b1 hd
  have hm : ((n : Int) - 4) * (z : Int) ≤ 60 * 512 := Int.mul_le_mul (by omega) (by omega) (by omega) (by omega)
  have hm0 : 0 ≤ ((n : Int) - 4) * (z : Int) := Int.mul_nonneg (by omega) (by omega)
  have h4 : (0 : Int) < (n : Int) - 4 := by omega
  have hw1 : wrap64 (((n : Int) - 4) * (z : Int)) = ((n : Int) - 4) * (z : Int) := (by unfold wrap64; omega)
  have hw2 : wrap64 (((n : Int) - 4) * (z : Int) - u) = ((n : Int) - 4) * (z : Int) - u := (by unfold wrap64; omega)
  go_enter Tryz.func36, Tryz.ntmps36
  go_wp2_with fail
  refine wp_region_flow 12 (List.range 12) [] [] (by kernel_rfl) (by kernel_rfl) ?_
  apply Exists.intro
  refine ⟨fun w0 hb0 hF0 => ?_, ?_⟩
  · skip
    have y0 : ∀ w', (∃ x : Ext w0, w' = x.at_) → w'.cell? ⟨w.heap.size, 0, none⟩ = some (.pointer (some ⟨p, 0, none⟩)) := fun w' ⟨x, hx⟩ => by rw [hx, ((K0.out.below hb0).below x.same).cell]; rfl
    have y1 : ∀ w', (∃ x : Ext w0, w' = x.at_) → w'.cell? ⟨w.heap.size, 1, none⟩ = some (.int .i64 u) := fun w' ⟨x, hx⟩ => by rw [hx, ((K0.out.below hb0).below x.same).cell]; rfl
    have c0 := fun e : Ext w0 => sectors_any e.at_ p bb z n B wv on set af kv ((HD.out.below hb0).below e.same)
    have c1 := fun e : Ext w0 => size_any e.at_ p bb z n B wv on set af kv ((HD.out.below hb0).below e.same)
    simp only [pick, List.range, List.range.loop, List.getElem?_toArray, List.getElem?_cons_succ, List.getElem?_cons_zero, Option.toList_some, List.cons_append, List.nil_append]
    repeat (first | (go_big_quiet_want; refine quiet_load_one_s 30 _ rfl ⟨w.heap.size, 0, none⟩ rfl _ y0 _ Tryz.underlying30 rfl ?_; go_big_quiet_on; simp only [Act.put, List.setIfInBounds_toArray, List.set_cons_zero, List.set_cons_succ]) | (go_big_quiet_want; refine quiet_load_one_s 3 _ rfl ⟨w.heap.size, 1, none⟩ rfl _ y1 _ Tryz.underlying3 rfl ?_; go_big_quiet_on; simp only [Act.put, List.setIfInBounds_toArray, List.set_cons_zero, List.set_cons_succ]) | go_big_quiet_step (first | (go_at_call 61; with_reducible exact Calls.ext (c0 _)) | (go_at_call 60; with_reducible exact Calls.ext (c1 _))))
    
    exact wpQuiet_nil rfl
  refine AlChk.nil ?_
  refine Walk.fin fun w2 hw2 _ _ => ?_
  simp only [List.drop_succ_cons, List.drop_zero]
  have HB2 := hid (Below.on Hb.out hw2)
  clear hw2
  go_wp2_with fail
  go_returns
  
  exact ⟨by first | rfl | simp, HB2.out⟩
set_option maxHeartbeats 4000000 in
theorem aread_none (w : World) (p bb z n : Nat) (B : List Int) (wv : Value) (on set : Bool) (af : Int) (kv : Value) (hd : DkAt w p bb z n B wv on set af kv) (hn : 5 ≤ n) :
    Calls Tryz.prog 66 #[.agg #[.pointer (some ⟨p, 0, none⟩), .int .i64 0], .int .i64 0] w fun e w' => e = .returned (.tuple #[.slice none 0 0, .bool true]) ∧ Below w.heap.size w w' := by
  have hn2 := hd.n2
  have hz2 := hd.z2
  have b1 := (Below.refl w.heap.size w).alloc (Nat.le_refl _) (.cells #[.pointer (some ⟨p, 0, none⟩), .int .i64 0] 81 (0, 0))
  have K0 := hid (Blk.new (w := w) (n := w.heap.size) rfl #[.pointer (some ⟨p, 0, none⟩), .int .i64 0] 81)
  have HD := hid (hd.below b1)
  have Hb := hid b1
  clear b1 hd
  have hm0 : 0 ≤ ((n : Int) - 4) * (z : Int) := Int.mul_nonneg (by omega) (by omega)
  have hm1 : ¬ ((n : Int) - 4) * (z : Int) - 0 < 0 := by omega
  go_enter Tryz.func66, Tryz.ntmps66
  go_wp2_with (refine wpList_load_blk rfl 81 _ rfl (w.heap.size) rfl _ 81 K0.out _ Tryz.underlying81 rfl 2 size_area rfl ?_)
  refine (left_any _ p bb z n B wv on set af kv 0 HD.out hn (by omega)).mono ?_
  rintro e w1 ⟨rfl, b1⟩
  have HB1 := hid (Below.on Hb.out b1)
  clear b1
  generalize ((n : Int) - 4) * (z : Int) - 0 = q at *
  go_wp2_with fail
  go_loopw [6, 7] (fun v iv wr => v = .slice none 0 0 ∧ iv = .int .i64 4 ∧ wr = w1) (fun _ _ _ => 0)
  case atStart => exact ⟨rfl, rfl, rfl⟩
  case round =>
    obtain ⟨rfl, rfl, rfl⟩ := hrel
    go_wp2_with fail
    go_returns
    exact ⟨by first | rfl | simp, HB1.out⟩
theorem dirL_s {e c a : List Value} {s q : Option Addr} (h1 : e.length = 34) (h2 : c.length = 67) {w : World} {x : Nat} {T : TypeId} (k : Blk w x (dirL e c s q a).toArray T) : w.cell? ⟨x, 102, none⟩ = some (.pointer q) := by
  have := range_mid (x := e ++ (c ++ [Value.pointer s])) (y := [Value.pointer q]) (z := a ++ [.slice none 0 0, .bool false]) (o := 102) (by unfold dirL at k; simpa using k) (by simp only [List.length_append, h1, h2, List.length_cons, List.length_nil]) 0 _ rfl
  exact this
theorem dirL_a {e c a : List Value} {s q : Option Addr} (h1 : e.length = 34) (h2 : c.length = 67) {w : World} {x : Nat} {T : TypeId} (k : Blk w x (dirL e c s q a).toArray T) : w.rangeAt x 103 a :=
  range_mid (x := e ++ (c ++ ([Value.pointer s] ++ [Value.pointer q]))) (y := a) (z := [.slice none 0 0, .bool false]) (o := 103) (by unfold dirL at k; simpa using k) (by simp only [List.length_append, h1, h2, List.length_cons, List.length_nil])
theorem dirL_used {e c : List Value} {s q d : Option Addr} {u : Int} (h1 : e.length = 34) (h2 : c.length = 67) : (dirL e c s q (arL d u)).toArray.setIfInBounds 104 (.int .i64 u) = (dirL e c s q (arL d u)).toArray := by
  have e1 : dirL e c s q (arL d u) = (e ++ (c ++ ([Value.pointer s] ++ ([Value.pointer q] ++ [Value.pointer d])))) ++ (.int .i64 u :: [.slice none 0 0, .bool false]) := by unfold dirL arL; simp
  have hl : (e ++ (c ++ ([Value.pointer s] ++ ([Value.pointer q] ++ [Value.pointer d])))).length = 104 := by simp only [List.length_append, h1, h2, List.length_cons, List.length_nil]
  rw [e1, List.setIfInBounds_toArray, List.set_append_right _ _ (by omega), hl, Nat.sub_self, List.set_cons_zero]
set_option maxHeartbeats 4000000 in
theorem dread_none (w : World) (x q p bb z n : Nat) (e c : List Value) (B : List Int) (set : Bool) (af : Int) (kv : Value) (at_ : Int) (ta : Option Addr) (tc : Nat) (sd : Option Addr) (st : Bool) (h1 : e.length = 34) (h2 : c.length = 67) (hk : Blk w x (dirL e c sd (some ⟨q, 0, none⟩) (arL (some ⟨p, 0, none⟩) 0)).toArray 83) (hq : Blk w q (slC p at_ 0 (.slice ta 0 tc) st) 141) (hT : TextAt w ta 0 tc []) (hd : DkAt w p bb z n B (.slice none 0 0) true set af kv) (hn : 5 ≤ n) :
    Calls Tryz.prog 22 #[.pointer (some ⟨x, 0, none⟩)] w fun e' w' => e' = .returned (.bool true) ∧ But x w w' ∧ Blk w' x (dirL e c sd (some ⟨q, 0, none⟩) (arL (some ⟨p, 0, none⟩) 0)).toArray 83 := by
  have Hk := hid hk
  have HQ := hid hq
  have HD := hid hd
  have HT := hid hT
  have Hb := hid (Below.refl w.heap.size w)
  have c102 := dirL_s h1 h2 hk
  have Hu := hid (dirL_used (s := sd) (q := some ⟨q, 0, none⟩) (d := some ⟨p, 0, none⟩) (u := 0) h1 h2)
  have Hsz := hid (show (dirL e c sd (some ⟨q, 0, none⟩) (arL (some ⟨p, 0, none⟩) 0)).toArray.size = 107 by rw [List.size_toArray, dirL_length h1 h2 rfl])
  clear hk hq hd hT
  go_enter Tryz.func22, Tryz.ntmps22
  go_wp2_with fail
  refine (text_any w q p at_ 0 ta 0 tc [] st HQ.out HT.out (by omega)).mono ?_
  rintro e1 w1 ⟨a1, c1, rfl, b1, -, -⟩
  have HB1 := hid b1
  have Hk1 := hid (Hk.out.below b1)
  have HD1 := hid (HD.out.below b1)
  have HR1 := hid (dirL_a h1 h2 Hk1.out)
  clear b1
  go_wp2_with (refine wpList_load_mid rfl 81 _ rfl x 103 rfl _ _ HR1.out Tryz.underlying81 rfl size_area ?_)
  refine (aread_none w1 p bb z n B _ true set af kv HD1.out hn).mono ?_
  rintro e2 w2 ⟨rfl, b2⟩
  have HB2 := hid (Below.on HB1.out b2)
  have Hk2 := hid (Hk1.out.below b2)
  clear b2
  go_wp2_with fail
  go_loopw [6, 7] (fun v o wr => v = .slice none 0 0 ∧ o = .bool true ∧ wr = w2) (fun _ _ _ => 0)
  case atStart => exact ⟨rfl, rfl, rfl⟩
  case round =>
    obtain ⟨rfl, rfl, rfl⟩ := hrel
    go_wp2_with (
      refine wpList_store_cell_s rfl 3 _ _ rfl x 104 (.int .i64 0) rfl rfl rfl rfl _ 83 Hk2.out (by rw [Hsz.out]; omega) size_pslots ?_
      intro w3 hb3 hk3
      have Hb3 := hid hb3
      have K3 := hid hk3
      clear hb3 hk3)
    go_returns
    exact ⟨by first | rfl | simp, But.trans (But.of HB2.out) Hb3.out, by rw [← Hu.out]; exact K3.out⟩
end Go.Proofs.YtpinamdgbijjlaaGreatDoor
namespace Go.Proofs.YtpinamdgbijjlaaGreatDoor
set_option maxRecDepth 100000
open Go.ChangeShapes Go.WideShapes Go.ChangeAt Go.RowKit
def zeros5 : List Int := List.replicate (5 * 400) 0
def disk5 : List Int := putS 400 (0 + (0 + 1) % 2) (slotB 400 (0 + 1) (stB (0 + 1) 0 0 0 0 [])) 400 zeros5
theorem openS_zero5 : openS 400 zeros5 0 = (0, []) := by decide +kernel
theorem openS_five : openS 400 disk5 2 = (0, []) := by decide +kernel
set_option maxHeartbeats 4000000 in
theorem sopen_five (w : World) (f p bb : Nat) (kv : Value) (tt bt : Int) (hd : DkAt w p bb 400 5 zeros5 (.slice none 0 0) true false 0 kv) (kf : Blk w f #[.int .i64 0, .int .i64 0, .int .i64 0] 87) (hfp : f ≠ p) (hfb : f ≠ bb) (ht : 2 ≤ tt ∧ tt ≤ 65536) (hb : 1 ≤ bt ∧ bt ≤ 16) :
    Calls Tryz.prog 19 #[.pointer (some ⟨p, 0, none⟩), .int .i64 0, .pointer (some ⟨f, 0, none⟩), .int .i64 tt, .int .i64 bt] w fun e w' => ∃ s q, e = .returned (.tuple #[.pointer (some ⟨s, 0, none⟩), .int .i64 0]) ∧ w.heap.size ≤ s ∧ w.heap.size ≤ q ∧ w.heap.size ≤ w'.heap.size ∧ FlowB.ButIn [p, bb, f] w w' ∧ DkAt w' p bb 400 5 disk5 (.slice none 0 0) true false 0 kv := by
  have HD := hid hd
  have Kf := hid kf
  have hfl := kf.lt
  have hpl := hd.kp.lt
  have hbl := hd.kb.lt
  have g0 : ¬ tt < 2 := by omega
  have g1 : ¬ 65536 < tt := by omega
  have g2 : ¬ bt < 1 := by omega
  have g3 : ¬ 16 < bt := by omega
  have Hb := hid (Below.refl w.heap.size w)
  clear hd kf
  go_enter Tryz.func19, Tryz.ntmps19
  go_wp2_with fail
  refine (open_good w p bb 400 5 zeros5 false 0 kv 0 HD.out (by omega) (by omega)).mono ?_
  rintro e w1 ⟨q, ta, tn, tc, rfl, hq, b1, k1, t1⟩
  rw [openS_zero5] at k1
  have HB1 := hid b1
  have Kq1 := hid k1
  have HD1 := hid (HD.out.below b1)
  have hs1 := b1.size
  have hql := k1.lt
  clear b1 k1 t1
  go_wp2_with fail
  refine (room_any w1 q p _ _ _ _ bb 400 5 zeros5 _ _ _ _ _ HD1.out Kq1.out (by omega)).mono ?_
  rintro e w2 ⟨rfl, b2⟩
  have HB2 := hid (Below.on HB1.out b2)
  have Kq2 := hid (Kq1.out.below b2)
  have HD2 := hid (HD1.out.below b2)
  have hs2 := b2.size
  clear b2
  rw [show (((400 : Nat) : Int) - 18) = 382 from rfl]
  go_wp2_with fail
  have c0 := (Below.refl w2.heap.size w2).alloc (Nat.le_refl _) (.cells (stC 0 0 0 0 0 (.slice none 0 0)) 131 (0, 0))
  refine (turn_any (w2.alloc (.cells (stC 0 0 0 0 0 (.slice none 0 0)) 131 (0, 0))) q p _ _ _ _ (Kq2.out.below c0)).mono ?_
  rintro e w3 ⟨rfl, b3⟩
  have K0 := hid ((Blk.new (w := w2) (n := w2.heap.size) rfl (stC 0 0 0 0 0 (.slice none 0 0)) 131).below b3)
  have b3' := Below.on c0 b3
  have HB3 := hid (Below.on HB2.out b3')
  have Kq3 := hid (Kq2.out.below b3')
  have HD3 := hid (HD2.out.below b3')
  have hs3 := b3'.size
  have h03 := K0.out.lt
  clear b3 b3' c0
  have HBS := hid (fun W : World => build_signer tt bt q f W)
  go_wp2_with (first
     | (refine wpList_buildv rfl 136 _ rfl [(2, .int .i64 tt), (3, .int .i64 bt), (4, .pointer (some ⟨q, 0, none⟩)), (5, .pointer (some ⟨f, 0, none⟩))] rfl _ HBS.out ?_)
     | (refine wpList_load_blk rfl 131 _ rfl (w2.heap.size) rfl _ 131 (K0.out.old (.cells (sgC 0 0 0 0 0 (.slice none 0 0) 0 tt bt q f false) 136 (0, 0))) _ Tryz.underlying131 rfl 6 size_state rfl ?_))
  have c3 := (Below.refl w3.heap.size w3).alloc (Nat.le_refl _) (.cells (sgC 0 0 0 0 0 (.slice none 0 0) 0 tt bt q f false) 136 (0, 0))
  have hc3 : (w3.alloc (.cells (sgC 0 0 0 0 0 (.slice none 0 0) 0 tt bt q f false) 136 (0, 0))).heap.size = w3.heap.size + 1 := by simp only [World.size_alloc]
  refine (begin_any_s (w3.alloc (.cells (sgC 0 0 0 0 0 (.slice none 0 0) 0 tt bt q f false) 136 (0, 0))) w3.heap.size q f p bb 400 5 zeros5 0 kv _ (.slice none 0 0) 0 0 0 0 0 0 0 0 0 0 0 0 0 0 0 0 0 0 0 tt bt none 0 0 [] (Blk.new rfl (sgC 0 0 0 0 0 (.slice none 0 0) 0 tt bt q f false) 136) (Kq3.out.below c3) ((Kf.out.below HB3.out).below c3) (HD3.out.below c3) ⟨TextAt.nil, fun x hx => by cases hx⟩ (by omega) (by omega) (by omega) (by omega) (by omega) (by omega) (by omega) (by omega) (by omega) (by omega) hfp hfb (by omega) rfl rfl ⟨by omega, by omega⟩ ⟨by omega, by omega⟩ ⟨by omega, by omega⟩ ⟨by omega, by omega⟩ ⟨by omega, by omega⟩).mono ?_
  rintro e w4 ⟨rfl, b4, -, -, -, d4⟩
  have H4 := hid (show w4.heap.size ≥ w3.heap.size + 1 ∧ DkAt w4 p bb 400 5 disk5 (.slice none 0 0) true false 0 kv from ⟨by have := b4.size; omega, d4⟩)
  have HX4 := hid (show FlowB.ButIn [p, bb, f] w w4 from by
    have x := Below.on HB3.out c3
    refine ⟨b4.os.trans x.os, b4.tape.trans x.tape, b4.output.trans x.output, Nat.le_trans x.size b4.size, fun k hk hn => ?_⟩
    rw [b4.block k (by omega) (by simp only [List.mem_cons, List.not_mem_nil, or_false, not_or] at hn ⊢; omega)]
    exact x.block k hk)
  clear b4 d4 c3
  go_wp2_with fail
  go_returns
  exact ⟨_, _, rfl, by omega, by omega, by have := H4.out.1; omega, HX4.out, H4.out.2⟩
theorem cfgL_shape {L V b : Int} {ma na : List Int} {w : World} {x : Nat} {T : TypeId} (k : Blk w x (cfgL L V b ma na).toArray T) : w.rangeAt x 0 (shC L V).toList :=
  range_mid (x := []) (y := [.int .i64 L, .int .i64 V]) (z := [.int .i64 b] ++ (u8V ma ++ u8V na)) (o := 0) (by unfold cfgL at k; simpa using k) rfl
theorem cfgL_b {L V b : Int} {ma na : List Int} {w : World} {x : Nat} {T : TypeId} (k : Blk w x (cfgL L V b ma na).toArray T) : w.cell? ⟨x, 2, none⟩ = some (.int .i64 b) :=
  (range_mid (x := [.int .i64 L, .int .i64 V]) (y := [Value.int .i64 b]) (z := u8V ma ++ u8V na) (o := 2) (by unfold cfgL at k; simpa using k) rfl) 0 _ rfl
theorem cfgL_master {L V b : Int} {ma na : List Int} {w : World} {x : Nat} {T : TypeId} (k : Blk w x (cfgL L V b ma na).toArray T) : w.rangeAt x 3 (ma.map (Value.int .u8)) :=
  range_mid (x := [.int .i64 L, .int .i64 V, .int .i64 b]) (y := u8V ma) (z := u8V na) (o := 3) (by unfold cfgL at k; simpa using k) rfl
theorem cfgL_names {L V b : Int} {ma na : List Int} (h : Dg ma) {w : World} {x : Nat} {T : TypeId} (k : Blk w x (cfgL L V b ma na).toArray T) : w.rangeAt x 35 (na.map (Value.int .u8)) :=
  range_mid (x := [.int .i64 L, .int .i64 V, .int .i64 b] ++ u8V ma) (y := u8V na) (z := []) (o := 35) (by unfold cfgL at k; simpa using k) (by simp only [List.length_append, u8V_length h, List.length_cons, List.length_nil])
theorem many_l (L V : Int) (w : World) : Calls Tryz.prog 20 #[.agg [Value.int .i64 L, Value.int .i64 V].toArray] w fun e w' => e = .returned (.int .i64 (manyS L V)) ∧ Below w.heap.size w w' := many_any L V w
set_option maxHeartbeats 4000000 in
theorem dopen_bad (L V b : Int) (ma na : List Int) (dv fv : Value) (w : World) (hr : rightS L V = false) :
    Calls Tryz.prog 7 #[.agg (cfgL L V b ma na).toArray, dv, fv] w fun e w' => e = .returned (.tuple #[.pointer none, .int .i64 1]) ∧ Below w.heap.size w w' := by
  have b1 := (Below.refl w.heap.size w).alloc (Nat.le_refl _) (.cells (cfgL L V b ma na).toArray 27 (0, 0))
  have K0 := hid (Blk.new (w := w) (n := w.heap.size) rfl (cfgL L V b ma na).toArray 27)
  have Hb := hid b1
  clear b1
  have HR := hid (cfgL_shape K0.out)
  go_enter Tryz.func7, Tryz.ntmps7
  go_wp2_with (refine wpList_load_mid rfl 23 _ rfl (w.heap.size) 0 rfl _ _ HR.out Tryz.underlying23 rfl size_shape ?_)
  refine (hright_b L V false hr _).mono ?_
  rintro e w1 ⟨rfl, b1⟩
  have HB1 := hid (Below.on Hb.out b1)
  clear b1
  go_wp2_with fail
  go_returns
  exact ⟨by first | rfl | simp, HB1.out⟩
set_option maxHeartbeats 4000000 in
theorem dopen_good (L V b : Int) (ma na : List Int) (w : World) (f p bb : Nat) (kv : Value) (hr : rightS L V = true) (hma : Dg ma) (hna : Dg na) (hb : 1 ≤ b ∧ b ≤ 16) (ht : 2 ≤ manyS L V ∧ manyS L V ≤ 65536) (hd : DkAt w p bb 400 5 zeros5 (.slice none 0 0) true false 0 kv) (kf : Blk w f #[.int .i64 0, .int .i64 0, .int .i64 0] 87) (hfp : f ≠ p) (hfb : f ≠ bb) :
    Calls Tryz.prog 7 #[.agg (cfgL L V b ma na).toArray, .pointer (some ⟨p, 0, none⟩), .pointer (some ⟨f, 0, none⟩)] w fun e w' => ∃ x sd qd ad, e = .returned (.tuple #[.pointer (some ⟨x, 0, none⟩), .int .i64 0]) ∧ w.heap.size ≤ x ∧ FlowB.ButIn [p, bb, f] w w' ∧ Blk w' x (dirL (epL na) (cfgL L V b ma na) sd qd ad).toArray 83 ∧ ad.length = 2 := by
  have hfl := kf.lt
  have hpl := hd.kp.lt
  have hbl := hd.kb.lt
  have b1 := (Below.refl w.heap.size w).alloc (Nat.le_refl _) (.cells (cfgL L V b ma na).toArray 27 (0, 0))
  have K0 := hid (Blk.new (w := w) (n := w.heap.size) rfl (cfgL L V b ma na).toArray 27)
  have HD := hid (hd.below b1)
  have Kf := hid (kf.below b1)
  have Hb := hid b1
  have hbz := b1.size
  clear b1 hd kf
  have HR := hid (cfgL_shape K0.out)
  have Hsz := hid (show (cfgL L V b ma na).toArray.size = 67 by rw [List.size_toArray, cfgL_length hma hna])
  go_enter Tryz.func7, Tryz.ntmps7
  go_wp2_with (refine wpList_load_mid rfl 23 _ rfl (w.heap.size) 0 rfl _ _ HR.out Tryz.underlying23 rfl size_shape ?_)
  refine (hright_b L V true hr _).mono ?_
  rintro e w1 ⟨rfl, b1⟩
  have HB1 := hid (Below.on Hb.out b1)
  have K1 := hid (K0.out.below b1)
  have HD1 := hid (HD.out.below b1)
  have Kf1 := hid (Kf.out.below b1)
  have hs1 := b1.size
  have hl1 := K1.out.lt
  clear b1
  go_wp2_with fail
  have hwx : w.heap.size ∉ [p, bb, f] := by simp only [List.mem_cons, List.not_mem_nil, or_false]; omega
  refine FlowB.wp_region_butIn [p, bb, f] (fun wz => DkAt wz p bb 400 5 zeros5 (.slice none 0 0) true false 0 kv ∧ Blk wz f #[.int .i64 0, .int .i64 0, .int .i64 0] 87) 12 [0, 1, 2, 3, 5, 6] [] [(.c 4, [], []), (.c 7, [8, 9, 10, 11], [])] (by kernel_rfl) (by kernel_rfl) ⟨HD1.out, Kf1.out⟩ (fun _ _ h hb => ⟨h.1.below hb, h.2.below hb⟩) ?_
  apply Exists.intro
  refine ⟨fun w0 hb0 hF0 => ?_, ?_⟩
  · skip
    have x0 : ∀ w', (∃ x : Ext w0, w' = x.at_) → w'.rangeAt (w.heap.size) 0 [.int .i64 L, .int .i64 V] := fun w' ⟨x, hx⟩ => by rw [hx]; exact cfgL_shape ((hb0.blk K1.out hwx).below x.same)
    have y2 : ∀ w', (∃ x : Ext w0, w' = x.at_) → w'.cell? ⟨w.heap.size, 2, none⟩ = some (.int .i64 b) := fun w' ⟨x, hx⟩ => by rw [hx]; exact cfgL_b ((hb0.blk K1.out hwx).below x.same)
    simp only [pick, List.getElem?_toArray, List.getElem?_cons_succ, List.getElem?_cons_zero, Option.toList_some, List.cons_append, List.nil_append]
    repeat (first | (go_big_quiet_want; refine quiet_load_mid 23 _ rfl (w.heap.size) 0 rfl _ x0 _ Tryz.underlying23 rfl size_shape ?_; go_big_quiet_on; simp only [Act.put, List.setIfInBounds_toArray, List.set_cons_zero, List.set_cons_succ]) | (go_big_quiet_want; refine quiet_load_one_s 3 _ rfl ⟨w.heap.size, 2, none⟩ rfl _ y2 _ Tryz.underlying3 rfl ?_; go_big_quiet_on; simp only [Act.put, List.setIfInBounds_toArray, List.set_cons_zero, List.set_cons_succ]) | go_big_quiet_step (fail))
    exact wpQuiet_nil rfl
  refine FlowB.AlChk.nil ?_
  refine FlowB.Walk.call rfl 20 #[.agg #[.int .i64 L, .int .i64 V]] (fun v _ => v = .int .i64 (manyS L V)) (fun _ wz => DkAt wz p bb 400 5 zeros5 (.slice none 0 0) true false 0 kv ∧ Blk wz f #[.int .i64 0, .int .i64 0, .int .i64 0] 87) (fun _ _ _ _ h _ => h) (fun _ _ _ h k => ⟨h.1.below k, h.2.below k⟩) rfl (fun w2 hb2 hF2 hG2 => ⟨by go_simp, ?_⟩) ?_
  · refine (many_l L V w2).mono ?_
    rintro e w3 ⟨rfl, b3⟩
    exact ⟨_, rfl, ButIn.of_below b3, rfl, hG2.1.below b3, hG2.2.below b3⟩
  rintro v2 w2 hb2 hF2 rfl
  apply Exists.intro
  refine ⟨fun y3 hb3 hF3 => wpQuiet_nil rfl, ?_⟩
  refine FlowB.AlChk.nil ?_
  refine FlowB.Walk.call rfl 19 #[.pointer (some ⟨p, 0, none⟩), .int .i64 0, .pointer (some ⟨f, 0, none⟩), .int .i64 (manyS L V), .int .i64 b] (fun v _ => ∃ s : Nat, v = .tuple #[.pointer (some ⟨s, 0, none⟩), .int .i64 0]) (fun _ wz => DkAt wz p bb 400 5 disk5 (.slice none 0 0) true false 0 kv) (fun _ _ _ _ h _ => h) (fun _ _ _ h k => h.below k) rfl (fun w3 hb3 hF3 hG3 => ⟨by go_simp, ?_⟩) ?_
  · refine (sopen_five w3 f p bb kv (manyS L V) b hG3.1 hG3.2 hfp hfb ht hb).mono ?_
    rintro e w4 ⟨s, q, rfl, hsw, hqw, hsz, b3, d3⟩
    exact ⟨_, rfl, b3, ⟨s, rfl⟩, d3⟩
  rintro v3 w3 hb3 hF3 ⟨s, rfl⟩
  apply Exists.intro
  refine ⟨fun y3 hb3 hF3 => ?_, ?_⟩
  · simp only [pick, List.getElem?_toArray, List.getElem?_cons_succ, List.getElem?_cons_zero, Option.toList_some, List.cons_append, List.nil_append, Act.put, List.setIfInBounds_toArray, List.set_cons_zero, List.set_cons_succ]
    repeat (go_big_quiet_step (fail))
    exact wpQuiet_nil rfl
  refine FlowB.AlChk.nil ?_
  refine FlowB.Walk.fin fun w3 h3 hF3 hG3 => ?_
  simp only [List.drop_succ_cons, List.drop_zero]
  have HX3 := hid (ButIn.on (ButIn.of_below (S := [p, bb, f]) HB1.out) h3)
  have K3 := hid (h3.blk K1.out hwx)
  have HD3 := hid hG3
  have hs3 := HX3.out.size
  have hl3 := K3.out.lt
  clear h3 hF3 hG3
  go_wp2_with fail
  refine (open_good w3 p bb 400 5 disk5 false 0 kv 2 HD3.out (by omega) (by omega)).mono ?_
  rintro e w4 ⟨q4, ta, tn, tc, rfl, hq4, b4, k4, t4⟩
  rw [openS_five] at k4 t4
  obtain rfl := t4.text.length
  have HX4 := hid (ButIn.on HX3.out (ButIn.of_below b4))
  have K4 := hid (K3.out.below b4)
  have HD4 := hid (HD3.out.below b4)
  have KQ4 := hid k4
  have HT4 := hid (show TextAt w4 ta 0 tc [] from t4.text)
  have hs4 := b4.size
  clear b4 k4 t4
  have HN4 := hid (cfgL_names hma K4.out)
  have HE := hid (fun W : World => build_epochs na hna W)
  have HA := hid (fun W : World => build_area (some ⟨p, 0, none⟩) W)
  have HDir := hid (fun W : World => build_dir (epL na) (cfgL L V b ma na) (arL (some ⟨p, 0, none⟩) 0) (some ⟨s, 0, none⟩) (some ⟨q4, 0, none⟩) (epL_length hna) (cfgL_length hma hna) rfl W)
  go_wp2_with (first
     | (refine wpList_load_mid rfl 25 _ rfl (w.heap.size) 35 rfl _ _ HN4.out Tryz.underlying25 rfl (by rw [List.length_map, hna.len]; exact size_digest) ?_)
     | (refine wpList_load_blk rfl 27 _ rfl (w.heap.size) rfl _ 27 K4.out _ Tryz.underlying27 rfl 67 size_config Hsz.out ?_)
     | (refine wpList_buildv rfl 79 _ rfl [(0, .agg (na.map (Value.int .u8)).toArray)] rfl _ HE.out ?_)
     | (refine wpList_buildv rfl 81 _ rfl [(0, .pointer (some ⟨p, 0, none⟩))] rfl _ HA.out ?_)
     | (refine wpList_buildv rfl 83 _ rfl [(0, .agg (epL na).toArray), (1, .agg (cfgL L V b ma na).toArray), (2, .pointer (some ⟨s, 0, none⟩)), (3, .pointer (some ⟨q4, 0, none⟩)), (4, .agg (arL (some ⟨p, 0, none⟩) 0).toArray)] rfl _ HDir.out ?_))
  have c5 := (Below.refl w4.heap.size w4).alloc (Nat.le_refl _) (.cells (dirL (epL na) (cfgL L V b ma na) (some ⟨s, 0, none⟩) (some ⟨q4, 0, none⟩) (arL (some ⟨p, 0, none⟩) 0)).toArray 83 (0, 0))
  refine (dread_none _ w4.heap.size q4 p bb 400 5 (epL na) (cfgL L V b ma na) disk5 false 0 kv _ ta tc (some ⟨s, 0, none⟩) false (epL_length hna) (cfgL_length hma hna) (Blk.new rfl _ _) (KQ4.out.below c5) (HT4.out.below c5) (HD4.out.below c5) (by omega)).mono ?_
  rintro e w6 ⟨rfl, b6, k6⟩
  have H6 := hid k6
  have HX6 := hid (show FlowB.ButIn [p, bb, f] w w6 from by
    have x := ButIn.on HX4.out (ButIn.of_below (S := [p, bb, f]) c5)
    refine ⟨b6.os.trans x.os, b6.tape.trans x.tape, b6.output.trans x.output, Nat.le_trans x.size b6.size, fun k hk hn => ?_⟩
    rw [b6.block k (Nat.lt_of_lt_of_le hk x.size) (by omega)]
    exact x.block k hk hn)
  clear b6 k6 c5
  go_wp2_with fail
  go_returns
  exact ⟨w4.heap.size, _, _, _, rfl, by omega, HX6.out, H6.out, rfl⟩
end Go.Proofs.YtpinamdgbijjlaaGreatDoor
namespace Go.Proofs.YtpinamdgbijjlaaGreatDoor
set_option maxRecDepth 100000
open Go.ChangeShapes Go.WideShapes Go.ChangeAt Go.RowKit
theorem guard_sec : Tryz.prog.eqGuardType Tryz.prog.depth 40 = false := by kernel_rfl
theorem guard_pub21 : Tryz.prog.eqGuardType Tryz.prog.depth 43 = false := by kernel_rfl
theorem quiet_cmp_agg {op : Oper} {a : Act} {C : World → Prop} {K : Act → Prop} {bop : BinOp} {tr T : TypeId} (hg : Tryz.prog.eqGuardType Tryz.prog.depth T = false) (x y : Operand) (ho : op.op = .binOp bop T x y tr) (xs ys : Array Value) (v : Value) (hx : a.eval x = .agg xs) (hy : a.eval y = .agg ys)
    (hr : ∀ W : World, (binOp bop T (.agg xs) (.agg ys)).run Tryz.prog W = .ok v W) (h : K (a.put op.dst v)) : op.quiet Tryz.prog a C K :=
  ⟨v, fun w' _ => by
    unfold Oper.quietAt execOp
    simp only [ho, hx, hy, Sem.run_bind, Sem.run_pure, Result.andThen_ok, run_eqGuard_agg w' bop T x y xs ys hg, hr w']
    simp [Oper.quietUpon], h⟩
theorem secL_e (a b c : List Int) (h1 : Dg a) (h2 : Dg b) (h3 : Dg c) : ((secL a b c).map (Value.int .u8)).toArray.extract 0 (0 + 32) = (a.map (Value.int .u8)).toArray ∧ ((secL a b c).map (Value.int .u8)).toArray.extract 32 (32 + 32) = (b.map (Value.int .u8)).toArray ∧ ((secL a b c).map (Value.int .u8)).toArray.extract 64 (64 + 32) = (c.map (Value.int .u8)).toArray := by
  have l1 := h1.len
  have l2 := h2.len
  have l3 := h3.len
  have e : (secL a b c).map (Value.int .u8) = a.map (Value.int .u8) ++ (b.map (Value.int .u8) ++ c.map (Value.int .u8)) := by unfold secL; simp
  rw [e]
  refine ⟨?_, ?_, ?_⟩
  · apply Array.ext'
    rw [List.extract_toArray, List.extract_eq_take_drop]
    exact List.take_left' (by rw [List.length_map, l1])
  · apply Array.ext'
    rw [List.extract_toArray, List.extract_eq_take_drop]
    rw [List.drop_left' (by rw [List.length_map, l1])]
    exact List.take_left' (by rw [List.length_map, l2])
  · apply Array.ext'
    rw [List.extract_toArray, List.extract_eq_take_drop]
    rw [← List.append_assoc, List.drop_left' (by rw [List.length_append, List.length_map, List.length_map, l1, l2])]
    exact List.take_of_length_le (by rw [List.length_map, l3]; omega)
theorem eq_sec_self (a b c : List Int) (h1 : Dg a) (h2 : Dg b) (h3 : Dg c) (w : World) : (binOp .eql 40 (.agg ((secL a b c).map (Value.int .u8)).toArray) (.agg ((secL a b c).map (Value.int .u8)).toArray)).run Tryz.prog w = .ok (.bool true) w := by
  have h : (Op.equalIn (9997 + 3) 40 (.agg ((secL a b c).map (Value.int .u8)).toArray) (.agg ((secL a b c).map (Value.int .u8)).toArray)).run Tryz.prog w = .ok true w := by
    obtain ⟨f0, f1, f2, hu, t0, t1, t2, o0, o1, o2, n0, n1, n2⟩ : ∃ f0 f1 f2 : Field, Tryz.prog.underlying 40 = some (.struct #[f0, f1, f2]) ∧ f0.type = 25 ∧ f1.type = 25 ∧ f2.type = 25 ∧ f0.offset = 0 ∧ f1.offset = 32 ∧ f2.offset = 64 ∧ f0.name ≠ "_" ∧ f1.name ≠ "_" ∧ f2.name ≠ "_" := ⟨_, _, _, Tryz.underlying40, rfl, rfl, rfl, rfl, rfl, rfl, by decide, by decide, by decide⟩
    have hf : Tryz.prog.fieldsOf 40 = #[f0, f1, f2] := by unfold Program.fieldsOf; rw [hu]
    obtain ⟨q0, q1, q2⟩ := secL_e a b c h1 h2 h3
    generalize ((secL a b c).map (Value.int .u8)).toArray = cs at *
    rw [run_equalIn_struct w (9997 + 2) 40 _ _ (by rw [hf]; exact hu) (by kernel_rfl), hf]
    exact eqFields_step n0 t0 o0 (part_dig cs a 0 w q0) (equalIn_dig 9997 a h1 w) (eqFields_step n1 t1 o1 (part_dig cs b 32 w q1) (equalIn_dig 9997 b h2 w) (eqFields_step n2 t2 o2 (part_dig cs c 64 w q2) (equalIn_dig 9997 c h3 w) eqFields_nil))
  rw [run_eql_struct, h]
  rfl
def rootD (m : List Int) (k L : Int) (n : Nat) : List Int := nodeZ (codeD 3 m k) (treeZ (L - 1) 0) (fun j => leafZ (codeD 1 m k) (codeD 3 m k) (L - 1) 0 j) n 0
theorem Dg.rootD (m : List Int) (k L : Int) (n : Nat) : Dg (rootD m k L n) := Dg.node (codeD 3 m k) (treeZ (L - 1) 0) (fun j => Dg.leaf (codeD 1 m k) (codeD 3 m k) (L - 1) 0 (j : Int)) n 0
theorem dirL_shape {e a : List Value} {s q : Option Addr} {L V b : Int} {ma na : List Int} (h1 : e.length = 34) {w : World} {x : Nat} {T : TypeId} (k : Blk w x (dirL e (cfgL L V b ma na) s q a).toArray T) : w.rangeAt x 34 [.int .i64 L, .int .i64 V] :=
  range_mid (x := e) (y := [.int .i64 L, .int .i64 V]) (z := [.int .i64 b] ++ (u8V ma ++ u8V na) ++ ([.pointer s] ++ ([.pointer q] ++ (a ++ [.slice none 0 0, .bool false])))) (o := 34) (by unfold dirL cfgL at k; simpa using k) h1
theorem dirL_master {e a : List Value} {s q : Option Addr} {L V b : Int} {ma na : List Int} (h1 : e.length = 34) {w : World} {x : Nat} {T : TypeId} (k : Blk w x (dirL e (cfgL L V b ma na) s q a).toArray T) : w.rangeAt x 37 (ma.map (Value.int .u8)) :=
  range_mid (x := e ++ [.int .i64 L, .int .i64 V, .int .i64 b]) (y := u8V ma) (z := u8V na ++ ([.pointer s] ++ ([.pointer q] ++ (a ++ [.slice none 0 0, .bool false])))) (o := 37) (by unfold dirL cfgL at k; simpa using k) (by rw [List.length_append, h1]; rfl)
set_option maxHeartbeats 4000000 in
theorem dpublic_any (k L b : Int) (n : Nat) (ma na : List Int) (w : World) (x : Nat) (e a : List Value) (s q : Option Addr) (hr : rightS L n = true) (hma : Dg ma) (h1 : e.length = 34) (hk : Blk w x (dirL e (cfgL L n b ma na) s q a).toArray 83) (tab : ShaTab w) :
    Calls Tryz.prog 11 #[.pointer (some ⟨x, 0, none⟩), .int .i64 k] w fun e w' => e = .returned (.agg (pubC L n (rootD ma k L n) (codeD 3 ma k)).toArray) ∧ Below w.heap.size w w' := by
  have HR := hid (Dg.rootD ma k L n)
  have HC := hid (Dg.code 3 ma k)
  have CK := hid (fun (W : World) (t : ShaTab W) => key_good (codeD 1 ma k) (codeD 2 ma k) (codeD 3 ma k) L n W hr (Dg.code 1 ma k) (Dg.code 2 ma k) (Dg.code 3 ma k) t)
  have CS := hid (fun (W : World) (t : ShaTab W) => dsecret_any k ma W hma t)
  have CK := hid (show ∀ (W : World) (t : ShaTab W), Calls Tryz.prog 28 #[.agg [Value.int .i64 L, .int .i64 n].toArray, (.agg ((secL (codeD 1 ma k) (codeD 2 ma k) (codeD 3 ma k)).map (Value.int .u8)).toArray)] W fun e w' => e = .returned (.tuple #[.agg (pubC L n (rootD ma k L n) (codeD 3 ma k)).toArray, .int .i64 0]) ∧ Below W.heap.size W w' from CK.out)
  generalize rootD ma k L n = R at *
  generalize codeD 3 ma k = C at *
  have b1 := (Below.refl w.heap.size w).alloc (Nat.le_refl _) (.cells zPub.toArray 43 (0, 0))
  have Kr := hid (Blk.new (w := w) (n := w.heap.size) rfl zPub.toArray 43)
  have Hk := hid (hk.below b1)
  have Hb := hid b1
  have hs1 := b1.size
  have Htab := hid tab
  have hxl := hk.lt
  clear b1 hk tab
  go_enter Tryz.func11, Tryz.ntmps11
  go_wp2_with fail
  refine wp_region_late_s 17 15 17 [0, 1, 2, 3, 4, 5, 6, 7, 8, 9, 10, 11, 12, 13, 14, 15] [16] [(.b 16, [], [])] (by kernel_rfl) (by kernel_rfl) rfl (by kernel_rfl) (fun _ _ d _ _ h => by cases d <;> exact h) ?_
  simp only [late_s]
  apply Exists.intro
  refine ⟨fun w0 hb0 hF0 => ?_, ?_⟩
  · skip
    have x0 : ∀ w', (∃ x : Ext w0, w' = x.at_) → w'.rangeAt x 34 [.int .i64 L, .int .i64 n] := fun w' ⟨y, hy⟩ => by rw [hy]; exact dirL_shape h1 ((Hk.out.below hb0).below y.same)
    have x1 : ∀ w', (∃ x : Ext w0, w' = x.at_) → w'.rangeAt x 37 (ma.map (Value.int .u8)) := fun w' ⟨y, hy⟩ => by rw [hy]; exact dirL_master h1 ((Hk.out.below hb0).below y.same)
    have c0 := fun e : Ext w0 => CS.out e.at_ ((Htab.out.below (Below.on Hb.out hb0)).below e.same)
    have c1 := fun e : Ext w0 => CK.out e.at_ ((Htab.out.below (Below.on Hb.out hb0)).below e.same)
    simp only [pick, List.getElem?_toArray, List.getElem?_cons_succ, List.getElem?_cons_zero, Option.toList_some, List.cons_append, List.nil_append]
    repeat (first | (go_big_quiet_want; refine quiet_load_mid 23 _ rfl x 34 rfl _ x0 _ Tryz.underlying23 rfl size_shape ?_; go_big_quiet_on; simp only [Act.put, List.setIfInBounds_toArray, List.set_cons_zero, List.set_cons_succ]) | (go_big_quiet_want; refine quiet_load_mid 25 _ rfl x 37 rfl _ x1 _ Tryz.underlying25 rfl (by rw [List.length_map, hma.len]; exact size_digest) ?_; go_big_quiet_on; simp only [Act.put, List.setIfInBounds_toArray, List.set_cons_zero, List.set_cons_succ]) | go_big_quiet_step (first | (go_at_call 10; with_reducible exact Calls.ext (c0 _)) | (go_at_call 28; with_reducible exact Calls.ext (c1 _))))
    
    exact wpQuiet_nil rfl
  refine AlChk.one rfl (fun b => .pointer (some ⟨b, 0, none⟩)) (.cells zPub.toArray 43 (0, 0)) rfl (fun w3 hb3 hF3 => by go_simp; rfl) ?_
  refine AlChk.nil ?_
  refine Walk.blk rfl (fun b => .pointer (some ⟨b, 0, none⟩)) (.cells zPub.toArray 43 (0, 0)) (by simp) ?_
  intro b3 wz hbz_ hFz hge3 _
  apply Exists.intro
  refine ⟨fun w4 hb4 hF4 => wpQuiet_nil rfl, ?_⟩
  refine AlChk.nil ?_
  refine Walk.fin fun w2 hw2 hFw2 _ => ?_
  simp only [List.drop_succ_cons, List.drop_zero]
  have Kz2 := hid (show Blk w2 b3 zPub.toArray 43 from hFw2.2)
  have hge4 : w.heap.size + 1 ≤ b3 := by simpa only [World.size_alloc] using hge3
  have hb3w : w.heap.size ≠ b3 := by omega
  have hb3g : w.heap.size ≤ b3 := by omega
  have HB2 := hid (Below.on Hb.out hw2)
  have Kr2 := hid (Kr.out.below hw2)
  clear hw2 hFw2 hbz_ hFz hge3
  go_wp2_with (first
     | (
        refine wpList_store_blk rfl 43 _ _ rfl b3 (pubC L n R C).toArray rfl rfl _ 43 Kz2.out 66 size_public zPub_size (pubC_size HR.out HC.out) (pubC_ones _ _ _ _) ?_
        intro w5 hb5 hk5
        have HB5 := hid (hb5.below HB2.out HB2.out.size hb3g)
        have Kr5 := hid (hb5.blk Kr2.out hb3w)
        have K5 := hid hk5
        clear hb5 hk5)
     | (refine wpList_load_blk rfl 43 _ rfl b3 rfl _ 43 K5.out _ Tryz.underlying43 rfl 66 size_public (pubC_size HR.out HC.out) ?_)
     | (
        refine wpList_store_blk rfl 43 _ _ rfl (w.heap.size) (pubC L n R C).toArray rfl rfl _ 43 Kr5.out 66 size_public zPub_size (pubC_size HR.out HC.out) (pubC_ones _ _ _ _) ?_
        intro w6 hb6 hk6
        have HB6 := hid (hb6.below HB5.out HB5.out.size (Nat.le_refl _))
        have K6 := hid hk6
        clear hb6 hk6))
  
  exact bodyPost_ret (v := .agg (pubC L n R C).toArray) (results_blk Tryz.results11 _ (w.heap.size) rfl _ 43 K6.out _ Tryz.underlying43 rfl 66 size_public (pubC_size HR.out HC.out)) rfl ⟨rfl, HB6.out⟩
end Go.Proofs.YtpinamdgbijjlaaGreatDoor
namespace Go.Proofs.YtpinamdgbijjlaaGreatDoor
set_option maxRecDepth 100000
open Go.ChangeShapes Go.WideShapes Go.ChangeAt Go.RowKit
def zAns : List Value := [.slice none 0 0] ++ (u8V zD ++ (u8V zD ++ [.slice none 0 0]))
def zHead : List Value := [.int .i64 0, .int .i64 0] ++ (u8V zD ++ u8V zD)
theorem zAns_size : zAns.toArray.size = 66 := by decide
theorem zHead_size : zHead.toArray.size = 66 := by decide
theorem zSig21_size : zSig.toArray.size = 34 := by decide
theorem zAns_ones : zAns.toArray.all (·.oneCell') = true := by decide +kernel
theorem zHead_ones : zHead.toArray.all (·.oneCell') = true := by decide +kernel
theorem zSig_ones : zSig.toArray.all (·.oneCell') = true := by decide +kernel
theorem size_answer : (Tryz.prog.info? 53).map (·.size) = some 66 := by kernel_rfl
theorem size_head : (Tryz.prog.info? 58).map (·.size) = some 66 := by kernel_rfl
theorem results_two {P : Program} {w : World} {fn : Func} {p q u : Tmp} {ty tz : TypeId} (h : fn.results = #[.cell p ty, .cell q tz, .tmp u]) (tmps : Array Value) (b c : Nat) (hp : tmps.getD p undef = .pointer (some ⟨b, 0, none⟩)) (hq : tmps.getD q undef = .pointer (some ⟨c, 0, none⟩)) (v : Value) (hv : tmps.getD u undef = v) (cs ds : Array Value) (T U : TypeId) (hk : Blk w b cs T) (hk2 : Blk w c ds U)
    (d d2 : TypeDesc) (hu : P.underlying ty = some d) (hd : d.isRow = true) (hu2 : P.underlying tz = some d2) (hd2 : d2.isRow = true) (n m : Nat) (hi : (P.info? ty).map (·.size) = some n) (hi2 : (P.info? tz).map (·.size) = some m) (hs : cs.size = n) (hs2 : ds.size = m) : (results fn tmps).run P w = .ok (.tuple #[.agg cs, .agg ds, v]) w := by
  have hp' : tmps[p]?.getD undef = .pointer (some ⟨b, 0, none⟩) := by simpa using hp
  have hq' : tmps[q]?.getD undef = .pointer (some ⟨c, 0, none⟩) := by simpa using hq
  have hv' : tmps[u]?.getD undef = v := by simpa using hv
  have hl := run_loadVar_row (P := P) w b T ty cs (0, 0) d hk hu (by cases d <;> simp_all) (by rw [hi, hs])
  have hl2 := run_loadVar_row (P := P) w c U tz ds (0, 0) d2 hk2 hu2 (by cases d2 <;> simp_all) (by rw [hi2, hs2])
  simp [results, h, hp', hq', hv', asAddr, hl, hl2]
set_option maxHeartbeats 4000000 in
theorem disName_one (a : Option Addr) (c : Nat) (w : World) : Calls Tryz.prog 77 #[.slice a 1 c] w fun e w' => e = .returned (.bool true) ∧ Below w.heap.size w w' := by
  have Hb := hid (Below.refl w.heap.size w)
  go_enter Tryz.func77, Tryz.ntmps77
  go_wp2_with fail
  go_returns
  exact ⟨by first | rfl | simp, Hb.out⟩
set_option maxHeartbeats 4000000 in
theorem disName_nil (w : World) : Calls Tryz.prog 77 #[.slice none 0 0] w fun e w' => e = .returned (.bool false) ∧ Below w.heap.size w w' := by
  have Hb := hid (Below.refl w.heap.size w)
  go_enter Tryz.func77, Tryz.ntmps77
  go_wp2_with fail
  go_returns
  exact ⟨by first | rfl | simp, Hb.out⟩
set_option maxHeartbeats 4000000 in
theorem depoch_nil (w : World) : Calls Tryz.prog 78 #[.pointer none] w fun e w' => e = .returned (.int .i64 0) ∧ Below w.heap.size w w' := by
  have Hb := hid (Below.refl w.heap.size w)
  go_enter Tryz.func78, Tryz.ntmps78
  go_wp2_with fail
  go_returns
  exact ⟨by first | rfl | simp, Hb.out⟩
set_option maxHeartbeats 4000000 in
theorem dgone_nil (w : World) : Calls Tryz.prog 33 #[.pointer none] w fun e w' => e = .returned (.bool true) ∧ Below w.heap.size w w' := by
  have Hb := hid (Below.refl w.heap.size w)
  go_enter Tryz.func33, Tryz.ntmps33
  go_wp2_with fail
  go_returns
  exact ⟨by first | rfl | simp, Hb.out⟩
set_option maxHeartbeats 4000000 in
theorem dischange_nil (w : World) : Calls Tryz.prog 46 #[.int .i64 1, .slice none 0 0, .slice none 0 0] w fun e w' => e = .returned (.bool false) ∧ Below w.heap.size w w' := by
  go_enter Tryz.func46, Tryz.ntmps46
  go_wp2_with fail
  refine (disName_nil _).mono ?_
  rintro e w1 ⟨rfl, b1⟩
  have HB1 := hid b1
  clear b1
  go_wp2_with fail
  go_returns
  exact ⟨by first | rfl | simp, HB1.out⟩
set_option maxHeartbeats 4000000 in
theorem dchange_nil (w : World) : Calls Tryz.prog 17 #[.pointer none, .int .i64 1, .slice none 0 0, .slice none 0 0] w fun e w' => e = .returned (.int .i64 1) ∧ Below w.heap.size w w' := by
  go_enter Tryz.func17, Tryz.ntmps17
  go_wp2_with fail
  refine (dischange_nil _).mono ?_
  rintro e w1 ⟨rfl, b1⟩
  have HB1 := hid b1
  clear b1
  go_wp2_with fail
  go_returns
  exact ⟨by first | rfl | simp, HB1.out⟩
set_option maxHeartbeats 4000000 in
theorem danswer_nil (a : Option Addr) (c : Nat) (v : Value) (w : World) : Calls Tryz.prog 31 #[.pointer none, .slice a 1 c, v] w fun e w' => e = .returned (.tuple #[.agg zAns.toArray, .int .i64 8]) ∧ Below w.heap.size w w' := by
  have b1 := (Below.refl w.heap.size w).alloc (Nat.le_refl _) (.cells zAns.toArray 53 (0, 0))
  have Kr := hid (Blk.new (w := w) (n := w.heap.size) rfl zAns.toArray 53)
  have Hb := hid b1
  clear b1
  go_enter Tryz.func31, Tryz.ntmps31
  go_wp2_with fail
  refine (disName_one a c _).mono ?_
  rintro e w1 ⟨rfl, b1⟩
  have HB1 := hid (Below.on Hb.out b1)
  have K1 := hid (Kr.out.below b1)
  clear b1
  go_wp2_with fail
  refine (depoch_nil _).mono ?_
  rintro e w2 ⟨rfl, b2⟩
  have HB2 := hid (Below.on HB1.out b2)
  have K2 := hid (K1.out.below b2)
  clear b2
  go_wp2_with (
      refine wpList_store_blk rfl 53 _ _ rfl (w.heap.size) zAns.toArray rfl rfl _ 53 K2.out 66 size_answer zAns_size zAns_size zAns_ones ?_
      intro w9 hb9 hk9
      have HB9 := hid (hb9.below HB2.out HB2.out.size (Nat.le_refl _))
      have HK9 := hid hk9
      clear hb9 hk9)
  exact bodyPost_ret (v := .tuple #[.agg zAns.toArray, .int .i64 8]) (results_blk_tmp Tryz.results31 _ (w.heap.size) rfl _ rfl _ 53 HK9.out _ Tryz.underlying53 rfl 66 size_answer zAns_size) rfl ⟨rfl, HB9.out⟩
set_option maxHeartbeats 4000000 in
theorem dlookup_nil (a : Option Addr) (c : Nat) (w : World) : Calls Tryz.prog 15 #[.pointer none, .slice a 1 c] w fun e w' => e = .returned (.tuple #[.agg zAns.toArray, .int .i64 8]) ∧ Below w.heap.size w w' := by
  have b1 := (Below.refl w.heap.size w).alloc (Nat.le_refl _) (.cells zAns.toArray 53 (0, 0))
  have Kr := hid (Blk.new (w := w) (n := w.heap.size) rfl zAns.toArray 53)
  have Hb := hid b1
  clear b1
  go_enter Tryz.func15, Tryz.ntmps15
  go_wp2_with fail
  refine (danswer_nil a c _ _).mono ?_
  rintro e w1 ⟨rfl, b1⟩
  have HB1 := hid (Below.on Hb.out b1)
  have K1 := hid (Kr.out.below b1)
  clear b1
  go_wp2_with (
      refine wpList_store_blk rfl 53 _ _ rfl (w.heap.size) zAns.toArray rfl rfl _ 53 K1.out 66 size_answer zAns_size zAns_size zAns_ones ?_
      intro w9 hb9 hk9
      have HB9 := hid (hb9.below HB1.out HB1.out.size (Nat.le_refl _))
      have HK9 := hid hk9
      clear hb9 hk9)
  exact bodyPost_ret (v := .tuple #[.agg zAns.toArray, .int .i64 8]) (results_blk_tmp Tryz.results15 _ (w.heap.size) rfl _ rfl _ 53 HK9.out _ Tryz.underlying53 rfl 66 size_answer zAns_size) rfl ⟨rfl, HB9.out⟩
set_option maxHeartbeats 4000000 in
theorem dpublish_nil (w : World) : Calls Tryz.prog 16 #[.pointer none] w fun e w' => e = .returned (.tuple #[.agg zHead.toArray, .agg zSig.toArray, .int .i64 9]) ∧ Below w.heap.size w w' := by
  have b1 := (Below.refl w.heap.size w).alloc (Nat.le_refl _) (.cells zHead.toArray 58 (0, 0))
  have b2 := b1.alloc b1.size (.cells zSig.toArray 61 (0, 0))
  have K0 := hid ((Blk.new (w := w) (n := w.heap.size) rfl zHead.toArray 58).old (.cells zSig.toArray 61 (0, 0)))
  have K1 := hid (Blk.new (w := (w.alloc (.cells zHead.toArray 58 (0, 0)))) (n := w.heap.size + 1) (by simp only [World.size_alloc]) zSig.toArray 61)
  have Hb := hid b2
  have hs2 := b2.size
  clear b1 b2
  go_enter Tryz.func16, Tryz.ntmps16
  go_wp2_with fail
  refine (dgone_nil _).mono ?_
  rintro e w1 ⟨rfl, b1⟩
  have HB1 := hid (Below.on Hb.out b1)
  have K01 := hid (K0.out.below b1)
  have K11 := hid (K1.out.below b1)
  clear b1
  go_wp2_with (first
     | (
        refine wpList_store_blk rfl 58 _ _ rfl (w.heap.size) zHead.toArray rfl rfl _ 58 K01.out 66 size_head zHead_size zHead_size zHead_ones ?_
        intro w5 hb5 hk5
        have HB5 := hid (hb5.below HB1.out HB1.out.size (Nat.le_refl _))
        have K05 := hid hk5
        have K15 := hid (hb5.blk K11.out (by omega))
        clear hb5 hk5)
     | (
        refine wpList_store_blk rfl 61 _ _ rfl (w.heap.size + 1) zSig.toArray rfl rfl _ 61 K15.out 34 size_sig zSig21_size zSig21_size zSig_ones ?_
        intro w6 hb6 hk6
        have HB6 := hid (hb6.below HB5.out HB5.out.size (by omega))
        have K06 := hid (hb6.blk K05.out (by omega))
        have K16 := hid hk6
        clear hb6 hk6))
  exact bodyPost_ret (v := .tuple #[.agg zHead.toArray, .agg zSig.toArray, .int .i64 9]) (results_two Tryz.results16 _ (w.heap.size) (w.heap.size + 1) rfl rfl _ rfl _ _ 58 61 K06.out K16.out _ _ Tryz.underlying58 rfl Tryz.underlying61 rfl 66 34 size_head size_sig zHead_size zSig21_size) rfl ⟨rfl, HB6.out⟩
theorem conv_a (W : World) : (convert 56 56 (.slice (some ⟨W.heap.size, 0, none⟩) 1 1)).run Tryz.prog (W.alloc (.cells #[.int .u8 97] 5)) = .ok (.slice (some ⟨W.heap.size, 0, none⟩) 1 1) (W.alloc (.cells #[.int .u8 97] 5 (1, 2))) := by
  have h := Go.Lib.run_convert_bytes_const (P := Tryz.prog) W 56 5 #[.int .u8 97] 1 1 Tryz.underlying56 Tryz.underlying5
  simpa using h
set_option maxHeartbeats 4000000 in
theorem knows21 (w : World) : Calls Tryz.prog 5 #[] w fun e w' => e = .returned (.bool true) ∧ Below w.heap.size w w' := by
  have hca := conv_a
  have hz := cfgL_length (L := 0) (V := 0) (b := 0) Dg.zero Dg.zero
  go_enter Tryz.func5, Tryz.ntmps5
  go_wp2_with fail
  have c1 := (Below.refl w.heap.size w).alloc (Nat.le_refl _) (.cells #[.int .u8 97] 5 (1, 2))
  have HB0 := hid c1
  clear c1
  refine (dlookup_nil _ 1 _).mono ?_
  rintro e w1 ⟨rfl, b1⟩
  have HB1 := hid (Below.on HB0.out b1)
  have hs1 := HB1.out.size
  clear b1
  go_wp2_with (
      refine wpList_store_blk rfl 53 _ _ rfl (w1.heap.size) zAns.toArray rfl rfl _ 53 (Blk.new rfl zAns.toArray _) 66 size_answer zAns_size zAns_size zAns_ones ?_
      intro w2 hb2 hk2
      have h2 := hb2.below ((Below.refl w1.heap.size w1).alloc (Nat.le_refl _) _) (by simp only [World.size_alloc]; omega) (Nat.le_refl _)
      have HB2 := hid (Below.on HB1.out h2)
      clear hb2 hk2 h2)
  
  refine (dopen_bad 0 0 0 zD zD _ _ w2 (by decide)).mono ?_
  rintro e w3 ⟨rfl, b3⟩
  have HB3 := hid (Below.on HB2.out b3)
  clear b3
  go_wp2_with fail
  refine (dpublish_nil _).mono ?_
  rintro e w4 ⟨rfl, b4⟩
  have HB4 := hid (Below.on HB3.out b4)
  clear b4
  go_wp2_with (first
     | (
        refine wpList_store_blk rfl 58 _ _ rfl (w4.heap.size) zHead.toArray rfl rfl _ 58 ((Blk.new rfl zHead.toArray _).old _) 66 size_head zHead_size zHead_size zHead_ones ?_
        intro w5 hb5 hk5
        have h5 := hb5.below (((Below.refl w4.heap.size w4).alloc (Nat.le_refl _) _).alloc (by simp only [World.size_alloc]; omega) (.cells zSig.toArray 61 (0, 0))) (by simp only [World.size_alloc]; omega) (Nat.le_refl _)
        have HB5 := hid (Below.on HB4.out h5)
        have K5 := hid (hb5.blk (Blk.new (w := (w4.alloc (.cells zHead.toArray 58 (0, 0)))) (n := w4.heap.size + 1) (by simp only [World.size_alloc]) zSig.toArray 61) (by omega))
        have hs5 := HB5.out.size
        have hs45 := h5.size
        clear hb5 hk5 h5)
     | (
        refine wpList_store_blk rfl 61 _ _ rfl (w4.heap.size + 1) zSig.toArray rfl rfl _ 61 K5.out 34 size_sig zSig21_size zSig21_size zSig_ones ?_
        intro w6 hb6 hk6
        have HB6 := hid (hb6.below HB5.out HB5.out.size (by have := HB4.out.size; omega))
        clear hb6 hk6))
  refine (dchange_nil _).mono ?_
  rintro e w7 ⟨rfl, b7⟩
  have HB7 := hid (Below.on HB6.out b7)
  clear b7
  go_wp2_with fail
  go_returns
  exact ⟨by first | rfl | simp, HB7.out⟩
end Go.Proofs.YtpinamdgbijjlaaGreatDoor
namespace Go.Proofs.YtpinamdgbijjlaaGreatDoor
set_option maxRecDepth 100000
open Go.ChangeShapes Go.WideShapes Go.ChangeAt Go.RowKit
theorem many_four {L : Int} {n : Nat} (hr : rightS L n = true) (hs : decide (L * ((2 ^ n : Nat) : Int) ≤ 4) = true) : 2 ≤ manyS L n ∧ manyS L n ≤ 65536 := by
  have hr2 := hr
  simp only [rightS, decide_eq_true_eq] at hr2
  have h4 := of_decide_eq_true hs
  have hn : n ≤ 2 := by
    have h1 : (1 : Int) * ((2 ^ n : Nat) : Int) ≤ L * ((2 ^ n : Nat) : Int) := Int.mul_le_mul_of_nonneg_right (by omega) (Int.natCast_nonneg _)
    have h2 : 2 ^ n ≤ 4 := by omega
    exact (Nat.pow_le_pow_iff_right (by omega : 1 < 2)).1 (show 2 ^ n ≤ 2 ^ 2 from h2)
  have hL : L = 1 ∨ L = 2 := by
    have h1 : L * 2 ≤ L * ((2 ^ n : Nat) : Int) := by
      refine Int.mul_le_mul_of_nonneg_left ?_ (by omega)
      have : 2 ^ 1 ≤ 2 ^ n := Nat.pow_le_pow_right (by omega) (by omega)
      omega
    omega
  have hn1 : 1 ≤ n := by omega
  unfold manyS
  rw [if_pos hr]
  obtain rfl | rfl : n = 1 ∨ n = 2 := by omega
  · obtain rfl | rfl := hL <;> decide
  · obtain rfl | rfl := hL <;> decide
/-- Of the blocks below a number only some may change. -/
structure ButB (B : Nat) (S : List Nat) (w w' : World) : Prop where
  os : w'.os = w.os
  tape : w'.tape = w.tape
  output : w'.output = w.output
  size : w.heap.size ≤ w'.heap.size
  block : ∀ k, k < w.heap.size → k < B → k ∉ S → w'.heap[k]? = w.heap[k]?
theorem rel_butB (B : Nat) (S : List Nat) : Rel (ButB B S) :=
  ⟨fun h => ⟨h.os, h.tape, h.output, h.size, fun k hk _ _ => h.block k hk⟩,
   fun h k => ⟨k.os.trans h.os, k.tape.trans h.tape, k.output.trans h.output, Nat.le_trans h.size k.size, fun j hj hB hc => by
     rw [k.block j (Nat.lt_of_lt_of_le hj h.size) hB hc, h.block j hj hB hc]⟩⟩
theorem ButB.blk {B : Nat} {S : List Nat} {w w' : World} {b : Nat} {cs : Array Value} {T : TypeId} (h : ButB B S w w') (k : Blk w b cs T) (hB : b < B) (hb : b ∉ S) : Blk w' b cs T := by
  have := k.lt
  unfold Blk at *
  rw [h.block _ this hB hb]; exact k
theorem cfgL_set {L V b : Int} {ma na : List Int} : (cfgL L V b ma na).toArray.setIfInBounds 2 (.int .i64 1) = (cfgL L V 1 ma na).toArray := by
  unfold cfgL
  rw [List.setIfInBounds_toArray]
  rfl
set_option maxHeartbeats 4000000 in
theorem small21_bad (L V : Int) (w : World) (hr : rightS L V = false) : Calls Tryz.prog 4 #[.agg (shC L V)] w fun e w' => e = .returned (.bool false) ∧ Below w.heap.size w w' := by
  have b1 := (Below.refl w.heap.size w).alloc (Nat.le_refl _) (.cells (shC L V) 23 (0, 0))
  have K0 := hid (Blk.new (w := w) (n := w.heap.size) rfl (shC L V) 23)
  have Hb := hid b1
  clear b1
  go_enter Tryz.func4, Tryz.ntmps4
  go_wp2_with (refine wpList_load_blk rfl 23 _ rfl (w.heap.size) rfl _ 23 K0.out _ Tryz.underlying23 rfl 2 size_shape rfl ?_)
  refine (refright_b L V false hr _).mono ?_
  rintro e w1 ⟨rfl, b1⟩
  have HB1 := hid (Below.on Hb.out b1)
  clear b1
  go_wp2_with fail
  go_returns
  exact ⟨by first | rfl | simp, HB1.out⟩
set_option maxHeartbeats 4000000 in
theorem small21_good (L : Int) (n : Nat) (r : Bool) (w : World) (hr : rightS L n = true) (hb : decide (L * ((2 ^ n : Nat) : Int) ≤ 4) = r) : Calls Tryz.prog 4 #[.agg (shC L n)] w fun e w' => e = .returned (.bool r) ∧ Below w.heap.size w w' := by
  have b1 := (Below.refl w.heap.size w).alloc (Nat.le_refl _) (.cells (shC L n) 23 (0, 0))
  have K0 := hid (Blk.new (w := w) (n := w.heap.size) rfl (shC L n) 23)
  have Hb := hid b1
  clear b1
  go_enter Tryz.func4, Tryz.ntmps4
  go_wp2_with (refine wpList_load_blk rfl 23 _ rfl (w.heap.size) rfl _ 23 K0.out _ Tryz.underlying23 rfl 2 size_shape rfl ?_)
  refine (refright_b L n true hr _).mono ?_
  rintro e w1 ⟨rfl, b1⟩
  have HB1 := hid (Below.on Hb.out b1)
  have K1 := hid (K0.out.below b1)
  clear b1
  go_wp2_with (first | (refine wpList_load_blk rfl 23 _ rfl (w.heap.size) rfl _ 23 K1.out _ Tryz.underlying23 rfl 2 size_shape rfl ?_) | (refine wpList_load_blk_if (by first | rfl | go_simp) 23 _ rfl (w.heap.size) rfl _ 23 K1.out _ Tryz.underlying23 rfl 2 size_shape rfl ?_))
  refine (small_good L n 4 r _ hr hb).mono ?_
  rintro e w2 ⟨rfl, b2⟩
  have HB2 := hid (Below.on HB1.out b2)
  clear b2
  go_wp2_with fail
  go_returns
  exact ⟨by first | rfl | simp, HB2.out⟩
set_option maxHeartbeats 4000000 in
theorem directoryKeys_bad (L V b k : Int) (ma na : List Int) (w : World) (hr : rightS L V = false) :
    Calls Tryz.prog 3 #[.agg (cfgL L V b ma na).toArray, .int .i64 k] w fun e w' => e = .returned (.bool true) ∧ Below w.heap.size w w' := by
  have b1 := (Below.refl w.heap.size w).alloc (Nat.le_refl _) (.cells (cfgL L V b ma na).toArray 27 (0, 0))
  have K0 := hid (Blk.new (w := w) (n := w.heap.size) rfl (cfgL L V b ma na).toArray 27)
  have Hb := hid b1
  clear b1
  have HR := hid (cfgL_shape K0.out)
  go_enter Tryz.func3, Tryz.ntmps3
  go_wp2_with (refine wpList_load_mid rfl 23 _ rfl (w.heap.size) 0 rfl _ _ HR.out Tryz.underlying23 rfl size_shape ?_)
  refine (small21_bad L V _ hr).mono ?_
  rintro e w1 ⟨rfl, b1⟩
  have HB1 := hid (Below.on Hb.out b1)
  clear b1
  go_wp2_with fail
  refine (knows21 _).mono ?_
  rintro e w2 ⟨rfl, b2⟩
  have HB2 := hid (Below.on HB1.out b2)
  clear b2
  go_wp2_with fail
  go_returns
  exact ⟨by first | rfl | simp, HB2.out⟩
set_option maxHeartbeats 4000000 in
theorem directoryKeys_big (L b k : Int) (n : Nat) (ma na : List Int) (w : World) (hr : rightS L n = true) (hs : decide (L * ((2 ^ n : Nat) : Int) ≤ 4) = false) :
    Calls Tryz.prog 3 #[.agg (cfgL L n b ma na).toArray, .int .i64 k] w fun e w' => e = .returned (.bool true) ∧ Below w.heap.size w w' := by
  have b1 := (Below.refl w.heap.size w).alloc (Nat.le_refl _) (.cells (cfgL L n b ma na).toArray 27 (0, 0))
  have K0 := hid (Blk.new (w := w) (n := w.heap.size) rfl (cfgL L n b ma na).toArray 27)
  have Hb := hid b1
  clear b1
  have HR := hid (cfgL_shape K0.out)
  go_enter Tryz.func3, Tryz.ntmps3
  go_wp2_with (refine wpList_load_mid rfl 23 _ rfl (w.heap.size) 0 rfl _ _ HR.out Tryz.underlying23 rfl size_shape ?_)
  refine (small21_good L n false _ hr hs).mono ?_
  rintro e w1 ⟨rfl, b1⟩
  have HB1 := hid (Below.on Hb.out b1)
  clear b1
  go_wp2_with fail
  refine (knows21 _).mono ?_
  rintro e w2 ⟨rfl, b2⟩
  have HB2 := hid (Below.on HB1.out b2)
  clear b2
  go_wp2_with fail
  go_returns
  exact ⟨by first | rfl | simp, HB2.out⟩
set_option maxHeartbeats 4000000 in
theorem directoryKeys_good (L b k : Int) (n : Nat) (ma na : List Int) (w : World) (hr : rightS L n = true) (hs : decide (L * ((2 ^ n : Nat) : Int) ≤ 4) = true) (hma : Dg ma) (hna : Dg na) (tab : ShaTab w) :
    Calls Tryz.prog 3 #[.agg (cfgL L n b ma na).toArray, .int .i64 k] w fun e w' => e = .returned (.bool true) ∧ Below w.heap.size w w' := by
  have hmany := many_four hr hs
  have Htab := hid tab
  have Hsz0 := hid (show (cfgL L n b ma na).toArray.size = 67 by rw [List.size_toArray, cfgL_length hma hna])
  have Hsz := hid (show (cfgL L n 1 ma na).toArray.size = 67 by rw [List.size_toArray, cfgL_length hma hna])
  clear tab
  have b1 := (Below.refl w.heap.size w).alloc (Nat.le_refl _) (.cells (cfgL L n b ma na).toArray 27 (0, 0))
  have K0 := hid (Blk.new (w := w) (n := w.heap.size) rfl (cfgL L n b ma na).toArray 27)
  have Hb := hid b1
  clear b1
  have HR := hid (cfgL_shape K0.out)
  go_enter Tryz.func3, Tryz.ntmps3
  go_wp2_with (refine wpList_load_mid rfl 23 _ rfl (w.heap.size) 0 rfl _ _ HR.out Tryz.underlying23 rfl size_shape ?_)
  refine (small21_good L n true _ hr hs).mono ?_
  rintro e w1 ⟨rfl, b1⟩
  have HB1 := hid (Below.on Hb.out b1)
  have K1 := hid (K0.out.below b1)
  clear b1
  go_wp2_with (
      refine wpList_store_cell_s rfl 3 _ _ rfl (w.heap.size) 2 (.int .i64 1) rfl rfl rfl rfl _ 27 K1.out (by rw [Hsz0.out]; omega) size_pslots ?_
      intro w2 hb2 hk2
      have HB2 := hid (hb2.below HB1.out HB1.out.size (Nat.le_refl _))
      have K2 := hid (show Blk w2 (w.heap.size) (cfgL L n 1 ma na).toArray 27 by rw [← cfgL_set (b := b)]; exact hk2)
      have hs2 := HB2.out.size
      have hl2 := K2.out.lt
      clear hb2 hk2)
  refine (new_good w2 5 400 (by omega) (by omega) (by omega) (by omega)).mono ?_
  rintro e w3 ⟨p, bb, rfl, hp, hbb, b3, d3⟩
  have HB3 := hid (Below.on HB2.out b3)
  have K3 := hid (K2.out.below b3)
  have HD3 := hid (show DkAt w3 p bb 400 5 zeros5 (.slice none 0 0) true false 0 (.slice none 0 0) from d3)
  have hs3 := b3.size
  have hpl := d3.kp.lt
  have hbl := d3.kb.lt
  clear b3 d3
  go_wp2_with fail
  have hw3 : w.heap.size < w3.heap.size := K3.out.lt
  have hwx : w.heap.size ∉ [p, bb] := by simp only [List.mem_cons, List.not_mem_nil, or_false]; omega
  refine FlowB.wp_region_flow_in (rel_butB w3.heap.size [p, bb]) (fun wz => DkAt wz p bb 400 5 zeros5 (.slice none 0 0) true false 0 (.slice none 0 0)) 8 [0, 1] [] [(.c 2, [], []), (.c 3, [4, 5, 6, 7], [])] (by kernel_rfl) (by kernel_rfl) (fun _ h => h.size) HD3.out (fun _ _ h hb => h.below hb) ?_
  apply Exists.intro
  refine ⟨fun w0 hb0 hF0 => ?_, ?_⟩
  · skip
    have xc : ∀ w', (∃ x : Ext w0, w' = x.at_) → ∃ T, Blk w' (w.heap.size) (cfgL L n 1 ma na).toArray T := fun w' ⟨x, hx⟩ => ⟨_, hx ▸ (hb0.blk K3.out hw3 hwx).below x.same⟩
    simp only [pick, List.getElem?_toArray, List.getElem?_cons_succ, List.getElem?_cons_zero, Option.toList_some, List.cons_append, List.nil_append]
    repeat (first | (go_big_quiet_want; refine quiet_load_blk 27 _ rfl (w.heap.size) rfl _ xc _ Tryz.underlying27 rfl 67 size_config Hsz.out ?_; go_big_quiet_on; simp only [Act.put, List.setIfInBounds_toArray, List.set_cons_zero, List.set_cons_succ]) | go_big_quiet_step (fail))
    exact wpQuiet_nil rfl
  refine FlowB.AlChk.nil ?_
  refine FlowB.Walk.call rfl 8 #[] (fun v _ => ∃ f : Nat, v = .pointer (some ⟨f, 0, none⟩) ∧ w3.heap.size ≤ f) (fun v y => DkAt y p bb 400 5 zeros5 (.slice none 0 0) true false 0 (.slice none 0 0) ∧ ∃ f : Nat, v = .pointer (some ⟨f, 0, none⟩) ∧ Blk y f #[.int .i64 0, .int .i64 0, .int .i64 0] 87) (fun _ _ _ _ h _ => h) (fun _ _ _ h k => ⟨h.1.below k, by obtain ⟨f, h1, h2⟩ := h.2; exact ⟨f, h1, h2.below k⟩⟩) rfl (fun y1 hy1 hF1 hG1 => ⟨by go_simp, ?_⟩) ?_
  · refine (new_any y1).mono ?_
    rintro e y2 ⟨rfl, b2, f2⟩
    exact ⟨_, rfl, (rel_butB _ _).of b2, ⟨_, rfl, hy1.size⟩, hG1.below b2, _, rfl, f2⟩
  rintro v4 y4 hy4 hF4 ⟨f, rfl, hf⟩
  apply Exists.intro
  refine ⟨fun y3 hb3 hF3 => wpQuiet_nil rfl, ?_⟩
  refine FlowB.AlChk.nil ?_
  refine FlowB.Walk.call rfl 7 #[.agg (cfgL L n 1 ma na).toArray, .pointer (some ⟨p, 0, none⟩), .pointer (some ⟨f, 0, none⟩)] (fun v _ => ∃ x : Nat, v = .tuple #[.pointer (some ⟨x, 0, none⟩), .int .i64 0]) (fun v y => ∃ (x : Nat) (sd qd : Option Addr) (ad : List Value), v = .tuple #[.pointer (some ⟨x, 0, none⟩), .int .i64 0] ∧ Blk y x (dirL (epL na) (cfgL L n 1 ma na) sd qd ad).toArray 83) (fun _ _ _ _ h _ => h) (fun _ _ _ h k => by obtain ⟨x, sd, qd, ad, h1, h2⟩ := h; exact ⟨x, sd, qd, ad, h1, h2.below k⟩) rfl (fun y1 hy1 hF1 hG1 => ⟨by go_simp, ?_⟩) ?_
  · obtain ⟨hg1, f', he, hg2⟩ := hG1
    cases he
    refine (dopen_good L n 1 ma na y1 f p bb (.slice none 0 0) hr hma hna (by omega) hmany hg1 hg2 (by omega) (by omega)).mono ?_
    rintro e y2 ⟨x, sd, qd, ad, rfl, hx, b5, k5, hal⟩
    exact ⟨_, rfl, ⟨b5.os, b5.tape, b5.output, b5.size, fun j hj hB hn => b5.block j hj (by simp only [List.mem_cons, List.not_mem_nil, or_false, not_or] at hn ⊢; omega)⟩, ⟨x, rfl⟩, x, sd, qd, ad, rfl, k5⟩
  rintro v5 y5 hy5 hF5 ⟨x, rfl⟩
  apply Exists.intro
  refine ⟨fun y3 hb3 hF3 => ?_, ?_⟩
  · simp only [pick, List.getElem?_toArray, List.getElem?_cons_succ, List.getElem?_cons_zero, Option.toList_some, List.cons_append, List.nil_append, Act.put, List.setIfInBounds_toArray, List.set_cons_zero, List.set_cons_succ]
    repeat (go_big_quiet_step (fail))
    exact wpQuiet_nil rfl
  refine FlowB.AlChk.nil ?_
  refine FlowB.Walk.fin fun w5 h5 hF5 hG5 => ?_
  simp only [List.drop_succ_cons, List.drop_zero]
  obtain ⟨x', sd, qd, ad, he, k5⟩ := hG5
  cases he
  have HB5 := hid (show Below w.heap.size w w5 from by
    have b := HB3.out
    refine ⟨h5.os.trans b.os, h5.tape.trans b.tape, h5.output.trans b.output, Nat.le_trans b.size h5.size, fun j hj => ?_⟩
    rw [h5.block j (by omega) (by omega) (by simp only [List.mem_cons, List.not_mem_nil, or_false]; omega), b.block j hj])
  have K5 := hid (h5.blk K3.out hw3 hwx)
  have KX5 := hid k5
  have hs5 := HB5.out.size
  have hl5 := K5.out.lt
  clear h5 hF5 k5
  have HM5 := hid (cfgL_master K5.out)
  go_wp2_with (refine wpList_load_mid rfl 25 _ rfl (w.heap.size) 3 rfl _ _ HM5.out Tryz.underlying25 rfl (by rw [List.length_map, hma.len]; exact size_digest) ?_)
  refine (drefsecret_any k ma _ hma).mono ?_
  rintro e w6 ⟨rfl, b6⟩
  have HB6 := hid (Below.on HB5.out b6)
  have K6 := hid (K5.out.below b6)
  have KX6 := hid (KX5.out.below b6)
  have hs6 := HB6.out.size
  clear b6
  have Hss := hid (show ((secL (codeD 1 ma k) (codeD 2 ma k) (codeD 3 ma k)).map (Value.int .u8)).toArray.size = 96 by rw [List.size_toArray, List.length_map, secL_length (Dg.code 1 ma k) (Dg.code 2 ma k) (Dg.code 3 ma k)])
  have Hzs := hid (show (byteCells 96 []).size = 96 from byteCells_size 96 [] (by simp))
  have q0 := fun W : World => eq_sec_self (codeD 1 ma k) (codeD 2 ma k) (codeD 3 ma k) (Dg.code 1 ma k) (Dg.code 2 ma k) (Dg.code 3 ma k) W
  have q1 := fun W : World => eq_pub_self L n (rootD ma k L n) (codeD 3 ma k) (Dg.rootD ma k L n) (Dg.code 3 ma k) W
  have C0 := hid (fun (W : World) (t : ShaTab W) => dsecret_any k ma W hma t)
  have C1 := hid (fun (W : World) (hk : Blk W x (dirL (epL na) (cfgL L n 1 ma na) sd qd ad).toArray 83) (t : ShaTab W) => dpublic_any k L 1 n ma na W x (epL na) ad sd qd hr hma (epL_length hna) hk t)
  have C2 := hid (fun (W : World) => refkey_good (codeD 1 ma k) (codeD 2 ma k) (codeD 3 ma k) L n W hr (Dg.code 1 ma k) (Dg.code 2 ma k) (Dg.code 3 ma k))
  have C2 := hid (show ∀ W : World, Calls Tryz.prog 12 #[.agg [Value.int .i64 L, .int .i64 n].toArray, (.agg ((secL (codeD 1 ma k) (codeD 2 ma k) (codeD 3 ma k)).map (Value.int .u8)).toArray)] W fun e w' => e = .returned (.agg (pubC L n (rootD ma k L n) (codeD 3 ma k)).toArray) ∧ Below W.heap.size W w' from C2.out)
  generalize hS3 : (secL (codeD 1 ma k) (codeD 2 ma k) (codeD 3 ma k)) = SS at *
  generalize hP3 : (pubC L n (rootD ma k L n) (codeD 3 ma k)) = PP at *
  clear hS3 hP3
  go_wp2_with (
      refine wpList_store_blk rfl 40 _ _ rfl (w6.heap.size) _ rfl rfl _ 40 (Blk.new rfl (byteCells 96 []) _) 96 size_secret Hzs.out Hss.out (ints_one _ _) ?_
      intro w7 hb7 hk7
      have h7 := hb7.below ((Below.refl w6.heap.size w6).alloc (Nat.le_refl _) _) (by simp only [World.size_alloc]; omega) (Nat.le_refl _)
      have HB7 := hid (Below.on HB6.out h7)
      have KS7 := hid hk7
      have K7 := hid (K6.out.below h7)
      have KX7 := hid (KX6.out.below h7)
      clear hb7 hk7 h7)
  
  simp only [Act.put]
  refine wp_region_flow 19 (List.range 19) [] [] (by kernel_rfl) (by kernel_rfl) ?_
  apply Exists.intro
  refine ⟨fun w0 hb0 hF0 => ?_, ?_⟩
  · skip
    have c0 := fun e : Ext w0 => C0.out e.at_ ((Htab.out.below (Below.on HB7.out hb0)).below e.same)
    have c1 := fun e : Ext w0 => C1.out e.at_ ((KX7.out.below hb0).below e.same) ((Htab.out.below (Below.on HB7.out hb0)).below e.same)
    have c2 := fun e : Ext w0 => C2.out e.at_
    have c3 := fun e : Ext w0 => knows21 e.at_
    have x0 : ∀ w', (∃ x : Ext w0, w' = x.at_) → w'.rangeAt (w.heap.size) 0 [.int .i64 L, .int .i64 n] := fun w' ⟨x, hx⟩ => by rw [hx]; exact cfgL_shape ((K7.out.below hb0).below x.same)
    have x3 : ∀ w', (∃ x : Ext w0, w' = x.at_) → w'.rangeAt (w.heap.size) 3 (ma.map (Value.int .u8)) := fun w' ⟨x, hx⟩ => by rw [hx]; exact cfgL_master ((K7.out.below hb0).below x.same)
    have xs : ∀ w', (∃ x : Ext w0, w' = x.at_) → ∃ T, Blk w' (w6.heap.size) (SS.map (Value.int .u8)).toArray T := fun w' ⟨x, hx⟩ => ⟨_, hx ▸ (KS7.out.below hb0).below x.same⟩
    simp only [pick, List.range, List.range.loop, List.getElem?_toArray, List.getElem?_cons_succ, List.getElem?_cons_zero, Option.toList_some, List.cons_append, List.nil_append]
    repeat (first | (go_big_quiet_want; refine quiet_load_mid 23 _ rfl (w.heap.size) 0 rfl _ x0 _ Tryz.underlying23 rfl size_shape ?_; go_big_quiet_on; simp only [Act.put, List.setIfInBounds_toArray, List.set_cons_zero, List.set_cons_succ]) | (go_big_quiet_want; refine quiet_load_mid 25 _ rfl (w.heap.size) 3 rfl _ x3 _ Tryz.underlying25 rfl (by rw [List.length_map, hma.len]; exact size_digest) ?_; go_big_quiet_on; simp only [Act.put, List.setIfInBounds_toArray, List.set_cons_zero, List.set_cons_succ]) | (go_big_quiet_want; refine quiet_load_blk 40 _ rfl (w6.heap.size) rfl _ xs _ Tryz.underlying40 rfl 96 size_secret Hss.out ?_; go_big_quiet_on; simp only [Act.put, List.setIfInBounds_toArray, List.set_cons_zero, List.set_cons_succ]) | (go_big_quiet_want; refine quiet_cmp_agg guard_sec _ _ rfl _ _ (.bool true) rfl rfl q0 ?_; go_big_quiet_on; simp only [Act.put, List.setIfInBounds_toArray, List.set_cons_zero, List.set_cons_succ]) | (go_big_quiet_want; refine quiet_cmp_agg guard_pub21 _ _ rfl _ _ (.bool true) rfl rfl q1 ?_; go_big_quiet_on; simp only [Act.put, List.setIfInBounds_toArray, List.set_cons_zero, List.set_cons_succ]) | go_big_quiet_step (first | (go_at_call 10; with_reducible exact Calls.ext (c0 _)) | (go_at_call 11; with_reducible exact Calls.ext (c1 _)) | (go_at_call 12; with_reducible exact Calls.ext (c2 _)) | (go_at_call 5; with_reducible exact Calls.ext (c3 _))))
    
    exact wpQuiet_nil rfl
  refine AlChk.nil ?_
  refine Walk.fin fun w8 hw8 _ _ => ?_
  simp only [List.drop_succ_cons, List.drop_zero]
  have HB8 := hid (Below.on HB7.out hw8)
  clear hw8
  go_wp2_with fail
  go_returns
  exact ⟨by first | rfl | simp, HB8.out⟩
set_option maxHeartbeats 4000000 in
theorem open_config {H : Type} {enc : TypeId × Value → H} {W : World} {base : Nat} {v : Value} {d : DataW H} {p : List MemPlace} (hv : Value.okWide Tryz.prog W .any base 27 v) (h : DataW.Trod enc Tryz.prog W 0 (fun _ => true) true 27 v d p) :
    ∃ (L V b : Int) (ma na : List Int), v = .agg (cfgL L V b ma na).toArray ∧ (Lit.int .i64 V).wf = true ∧ Dg ma ∧ Dg na := by
  obtain ⟨f0, f1, f2, f3, hu, t0, t1, t2, t3, o0, o1, o2, o3⟩ : ∃ f0 f1 f2 f3 : Field, Tryz.prog.underlying 27 = some (.struct #[f0, f1, f2, f3]) ∧ f0.type = 23 ∧ f1.type = 3 ∧ f2.type = 25 ∧ f3.type = 25 ∧ f0.offset = 0 ∧ f1.offset = 2 ∧ f2.offset = 3 ∧ f3.offset = 35 := ⟨_, _, _, _, Tryz.underlying27, rfl, rfl, rfl, rfl, rfl, rfl, rfl, rfl⟩
  obtain ⟨g0, g1, hs, s0, s1, p0, p1⟩ : ∃ f0 f1 : Field, Tryz.prog.underlying 23 = some (.struct #[f0, f1]) ∧ f0.type = 3 ∧ f1.type = 3 ∧ f0.offset = 0 ∧ f1.offset = 1 := ⟨_, _, Tryz.underlying23, rfl, rfl, rfl, rfl⟩
  have c32 : Tryz.prog.cellsOf 25 = 32 := by kernel_rfl
  have c67 : Tryz.prog.cellsOf 27 = 67 := by kernel_rfl
  have c1 : Tryz.prog.cellsOf 5 = 1 := by kernel_rfl
  have ci : Tryz.prog.cellsOf 3 = 1 := by kernel_rfl
  have c2 : Tryz.prog.cellsOf 23 = 2 := by kernel_rfl
  unfold Value.okWide at hv
  rw [hu] at hv
  obtain ⟨cs, rfl, hsz, _⟩ := hv
  obtain ⟨fuel, hf⟩ := h
  have hf : DataW.trod enc Tryz.prog W 0 (fun _ => true) true fuel 27 cs.toList = some (d, p) := hf
  obtain ⟨y0, y1, y2, y3, n, _, hl, q0, q1, q2, q3⟩ := Go.Joins.trod_struct4 hu hf
  rw [t0, o0, c2] at q0
  rw [t1, o1, ci] at q1
  rw [t2, o2, c32] at q2
  rw [t3, o3, c32] at q3
  obtain ⟨z0, z1, m, _, hl2, r0, r1⟩ := trod_struct2 hs q0
  rw [s0, p0, ci] at r0
  rw [s1, p1, ci] at r1
  obtain ⟨x, e0, _, w0⟩ := DataW.trod_int Tryz.underlying3 r0
  obtain ⟨y, e1, _, w1⟩ := DataW.trod_int Tryz.underlying3 r1
  obtain ⟨b, e2, _, w2⟩ := DataW.trod_int Tryz.underlying3 q1
  obtain ⟨ma, k1, e3⟩ := digest_cells Tryz.underlying25 Tryz.underlying5 c32 c1 q2
  obtain ⟨na, k2, e4⟩ := digest_cells Tryz.underlying25 Tryz.underlying5 c32 c1 q3
  refine ⟨x, y, b, ma, na, ?_, w1, k1, k2⟩
  refine congrArg Value.agg ?_
  apply Array.ext'
  rw [c67] at hl
  rw [c2] at hl2
  have h2 : (cs.toList.drop 0).take 2 = [.int .i64 x, .int .i64 y] := by
    obtain ⟨a, b, hab⟩ : ∃ a b, (cs.toList.drop 0).take 2 = [a, b] := by
      match (cs.toList.drop 0).take 2, hl2 with
      | [a, b], _ => exact ⟨a, b, rfl⟩
    rw [hab] at e0 e1 ⊢
    simp at e0 e1
    rw [e0, e1]
  have h3 : cs.toList = (cs.toList.drop 0).take 2 ++ ((cs.toList.drop 2).take 1 ++ ((cs.toList.drop 3).take 32 ++ (cs.toList.drop 35).take 32)) := by
    rw [List.take_of_length_le (l := cs.toList.drop 35) (by rw [List.length_drop]; omega)]
    rw [show cs.toList.drop 35 = (cs.toList.drop 3).drop 32 by rw [List.drop_drop], List.take_append_drop, show cs.toList.drop 3 = (cs.toList.drop 2).drop 1 by rw [List.drop_drop], List.take_append_drop, List.drop_zero, List.take_append_drop]
  rw [h3, h2, e2, e3, e4]
  rfl
end Go.Proofs.YtpinamdgbijjlaaGreatDoor
