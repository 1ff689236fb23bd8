/-
  Layer 13: a row of numbers is cloned; a failure is set.
-/
import Derived.Test.YtmpgnpkodapidaaSkA
namespace Go.Proofs.Ytmpgnpkodapidaa
open Go.ChangeShapes Go.WideShapes Go.ChangeAt Go.RowKit

theorem info_dint : (Try.prog.info? 3).map (fun i => (i.zero, i.size, i.bytes)) = some (some (.int .i64 0), 1, 8) := by kernel_rfl
set_option maxRecDepth 100000 in
theorem wpList_append_ints {P : Program} {w : World} {base : Nat} {t e : TypeId} {i : TypeInfo} {v : Value} {ops : Array Oper} {rest : List Oper} {o : Oper} {A : Act} {Q : Exit → Act → World → Prop} (hgd : o.guard = none) (s x : Operand) (ho : o.op = .call { callee := .builtin .append, args := #[s, x], argTypes := #[t, t] })
    (ht : P.underlying t = some (.slice e)) (hi : P.info? e = some i) (hz : i.zero = some (.int .i64 0)) (hsize : i.size = 1) (hby : i.bytes = 8) (hs : A.eval s = v) (hown : w.ownsRow base e 1 v 0 [])
    {a : Addr} {len cap : Nat} {ks : List Int} (hx : A.eval x = .slice (some a) len cap) (hl : ks.length = len) (hc : ∀ (j : Nat) (u : Value), (ks.map (Value.int .i64))[j]? = some u → w.cell? (a.add j) = some u) (hb : len ≤ 1000) (hbase : base ≤ w.heap.size)
    (h : ∀ v' w', w'.ownsRow base e 1 v' len (ks.map (Value.int .i64)) → Below base w w' → wpList P ops Q rest (A.put o.dst v') w') : wpList P ops Q (o :: rest) A w :=
  wpList_plain hgd fun K hK => by
    obtain ⟨v', w', hr, h2, h3, _⟩ := run_append_own w base t o.type e i (.int .i64 0) 1 8 ht hi hz hsize hby rfl (by decide) v _ _ hown a len cap (ks.map (Value.int .i64)) (by simp [hl]) hc
      (fun u hu => by simp only [List.mem_map] at hu; obtain ⟨y, _, rfl⟩ := hu; rfl) (by unfold maxLen; omega) (by omega) hbase
    rw [Nat.zero_add, List.nil_append] at h2
    have hbel : Below base w w' := ⟨h3.os, h3.tape, h3.output, h3.size, fun k hk => h3.block k (by omega) (fun e => by have := (hown.lt k e.symm).1; omega)⟩
    unfold Oper.wp execOp
    simp only [ho, resolve, invoke, builtin, Sem.run_bind, Sem.run_pure, Result.andThen_ok, List.map_toArray, List.map_cons, List.map_nil, hs, hx, hr, Oper.upon_value]
    exact hK _ _ (h v' w' h2 hbel)
theorem own_ints {w : World} {base : Nat} {e : TypeId} {v : Value} {ks : List Int} {n : Nat} (hn : ks.length = n) (h : w.ownsRow base e 1 v n (ks.map (Value.int .i64))) : ∃ a c, v = .slice a n c ∧ (ks.length = 0 ∨ ∃ x, a = some ⟨x, 0, none⟩ ∧ base ≤ x ∧ x < w.heap.size ∧ ∀ j, j < ks.length → w.cell? ⟨x, 0 + j, none⟩ = some (.int .i64 (ks.getD j 0))) := by
  obtain ⟨h1, ⟨h3, h2⟩ | ⟨g, cap, cur, rfl, hg, hh, hle, hmx, hsz, htk⟩⟩ := h
  · exact ⟨none, 0, by rw [h3, h2], .inl (by omega)⟩
  · refine ⟨_, cap, rfl, .inr ⟨g, rfl, hg, (Array.getElem?_eq_some_iff.1 hh).1, fun j hj => ?_⟩⟩
    have q : (ks.map (Value.int .i64))[j]? = some (.int .i64 (ks.getD j 0)) := by simp [hj]
    rw [Nat.zero_add, (show Blk w g cur e from hh).cell]
    rw [← htk, List.getElem?_take, if_pos (by omega)] at q
    simpa using q
set_option maxHeartbeats 4000000 in
set_option maxRecDepth 100000 in
theorem cloneI_any {w : World} {S : List Nat} {a : Option Addr} {cap : Nat} {ks : List Int} (hT : IntsAt w S a ks) (hl : ks.length ≤ 1000) (hS : ∀ b ∈ S, b < w.heap.size) (hn : a = none → ks = [] ∧ cap = 0) :
    Calls Try.prog 50 #[.slice a ks.length cap] w fun e w' => ∃ a' c', e = .returned (.slice a' ks.length c') ∧ Below w.heap.size w w' ∧ IntsAt w' S a' ks := by
  obtain ⟨i0, hi, hz0, hz1, hz2⟩ := info_parts info_dint
  have kE : (w.alloc (Obj.cells #[] 3)).ownsRow w.heap.size 3 1 (.slice (some ⟨w.heap.size, 0, none⟩) 0 0) 0 [] := (OwnB.of_blk (bs := []) (n := 0) (Blk.new rfl _ _) (Nat.le_refl _) rfl (by omega) (by simp)).row
  have belE : Below w.heap.size w (w.alloc (Obj.cells #[] 3)) := (Below.refl _ _).alloc (Nat.le_refl _) _
  have hq := fun (w : World) (a : Option Addr) (n c : Nat) => Lib.run_eql_slice_nil (P := Try.prog) w 32 3 a n c 0 0 Try.underlying32
  cases a with
  | none =>
    obtain ⟨rfl, rfl⟩ := hn rfl
    go_enter Try.func50, Try.ntmps50
    go_wp2
    go_ret
    exact ⟨none, ⟨0, rfl⟩, Below.refl _ _, hT⟩
  | some p =>
    have hT' := hT.butIn (ButIn.of_below belE)
    have hc : ∀ (j : Nat) (u : Value), (ks.map (Value.int .i64))[j]? = some u → (w.alloc (Obj.cells #[] 3)).cell? (p.add j) = some u := fun j u hu => by
      have hj : j < ks.length := by simpa using (List.getElem?_eq_some_iff.1 hu).1
      obtain ⟨h | ⟨x, o, he, _, _, hc⟩⟩ := hT'
      · omega
      · cases he
        have := hc j hj
        rw [Addr.add_mid, this]
        rw [← hu]
        simp [hj]
    have hcc := hid hc
    clear hT' hc
    generalize hkl : ks.length = n at *
    go_enter Try.func50, Try.ntmps50
    go_wp2_with (at_builtin; refine wpList_append_ints rfl _ _ rfl Try.underlying32 hi hz0 hz1 hz2 rfl kE rfl hkl hcc.out ?c1 ?c2 ?_)
    case c1 => omega
    case c2 => exact belE.size
    intro v' w3 hown hb
    have bel := hid (belE.trans hb)
    obtain ⟨a', c', rfl, q⟩ := own_ints hkl hown
    have qq := hid q
    clear hb belE kE hcc hown q
    go_wp2_with fail
    go_ret
    refine ⟨a', c', rfl, bel.out, ?_⟩
    rcases qq.out with h | ⟨x, rfl, hx, hlt, hc⟩
    · exact ⟨.inl h⟩
    · exact ⟨.inr ⟨x, 0, rfl, fun hm => by have := hS x hm; omega, hlt, hc⟩⟩
set_option maxHeartbeats 4000000 in
set_option maxRecDepth 100000 in
theorem fail_some (w : World) (p bb z n : Nat) (B : List Int) (wv : Value) (on set : Bool) (af : Int) (kv : Value) (hd : DkAt w p bb z n B wv on set af kv) (k : Int) (hk0 : 0 ≤ k) (ka : Option Addr) (kc : Nat) (ks : List Int) (hK : IntsAt w [p, bb] ka ks) (hl : ks.length ≤ 1000) (hn : ka = none → ks = [] ∧ kc = 0) :
    Calls Try.prog 23 #[.pointer (some ⟨p, 0, none⟩), .int .i64 k, .slice ka ks.length kc] w fun e w' => e = .returned (.tuple #[]) ∧ But p w w' ∧ ∃ a c, DkAt w' p bb z n B wv on true k (.slice a ks.length c) ∧ IntsAt w' [p, bb] a ks := by
  have Kd := hid hd.kp
  have hd0 := hid hd
  have HK := hid hK
  have hpl := hd.kp.lt
  have hbl := hd.kb.lt
  clear hd hK
  go_enter Try.func23, Try.ntmps23
  go_wp2_with (first
     | (
        refine wpList_store_cell rfl 4 _ _ rfl p 4 (.bool false) rfl rfl rfl rfl _ 75 Kd.out (by simp [dkC]) size_bool ?_
        intro w1 hb1 hk1
        have Hb1 := hid (hb1)
        have Kd1 := hid (show Blk w1 p (dkC z B.length bb wv on false af kv) 75 from hk1)
        clear hb1 hk1)
     | (
        refine wpList_store_cell rfl 3 _ _ rfl p 5 (.int .i64 0) rfl rfl rfl rfl _ 75 Kd1.out (by simp [dkC]) size_dint ?_
        intro w2 hb2 hk2
        have Hb2 := hid (But.trans Hb1.out hb2)
        have Kd2 := hid (show Blk w2 p (dkC z B.length bb wv on false 0 kv) 75 from hk2)
        clear hb2 hk2)
     | (
        refine wpList_store_cell rfl 32 _ _ rfl p 6 (.slice none 0 0) rfl rfl rfl rfl _ 75 Kd2.out (by simp [dkC]) size_ints ?_
        intro w3 hb3 hk3
        have Hb3 := hid (But.trans Hb2.out hb3)
        have Kd3 := hid (show Blk w3 p (dkC z B.length bb wv on false 0 (.slice none 0 0)) 75 from hk3)
        clear hb3 hk3))
  refine (cloneI_any (S := [p, bb]) (HK.out.butIn (ButIn.of_but Hb3.out (by simp))) hl (by have := Hb3.out.size; simp only [List.mem_cons, List.not_mem_nil, or_false, forall_eq_or_imp, forall_eq]; omega) hn).mono ?_
  rintro e w4 ⟨a4, c4, rfl, b4, i4⟩
  have Hb4 := hid (But.trans Hb3.out (But.of b4))
  have Kd4 := hid (Kd3.out.below b4)
  have HI4 := hid i4
  clear b4 i4
  go_wp2_with (first
     | (
        refine wpList_store_cell rfl 4 _ _ rfl p 4 (.bool true) rfl rfl rfl rfl _ 75 Kd4.out (by simp [dkC]) size_bool ?_
        intro w5 hb5 hk5
        have Hb5 := hid (But.trans Hb4.out hb5)
        have HI5 := hid (HI4.out.butIn (ButIn.of_but hb5 (by simp)))
        have Kd5 := hid (show Blk w5 p (dkC z B.length bb wv on true 0 (.slice none 0 0)) 75 from hk5)
        clear hb5 hk5)
     | (
        refine wpList_store_cell rfl 3 _ _ rfl p 5 (.int .i64 k) rfl rfl rfl rfl _ 75 Kd5.out (by simp [dkC]) size_dint ?_
        intro w6 hb6 hk6
        have Hb6 := hid (But.trans Hb5.out hb6)
        have HI6 := hid (HI5.out.butIn (ButIn.of_but hb6 (by simp)))
        have Kd6 := hid (show Blk w6 p (dkC z B.length bb wv on true k (.slice none 0 0)) 75 from hk6)
        clear hb6 hk6)
     | (
        refine wpList_store_cell rfl 32 _ _ rfl p 6 (.slice a4 ks.length c4) rfl rfl rfl rfl _ 75 Kd6.out (by simp [dkC]) size_ints ?_
        intro w7 hb7 hk7
        have Hb7 := hid (But.trans Hb6.out hb7)
        have HI7 := hid (HI6.out.butIn (ButIn.of_but hb7 (by simp)))
        have Kd7 := hid (show Blk w7 p (dkC z B.length bb wv on true k (.slice a4 ks.length c4)) 75 from hk7)
        clear hb7 hk7))
  go_returns
  exact ⟨by first | rfl | simp, Hb7.out, a4, ⟨c4, Kd7.out, Hb7.out.blk hd0.out.kb (Ne.symm hd0.out.ne), hd0.out.ne, hd0.out.len, hd0.out.z1, hd0.out.z2, hd0.out.n1, hd0.out.n2, hd0.out.small⟩, HI7.out⟩
end Go.Proofs.Ytmpgnpkodapidaa
