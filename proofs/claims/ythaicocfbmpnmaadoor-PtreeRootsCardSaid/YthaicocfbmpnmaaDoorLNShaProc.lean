/-
  Contract of sha.process: a block is taken in.
-/
import Derived.Test.YthaicocfbmpnmaaDoorLMShaA
import Derived.Test.YthaicocfbmpnmaaDoorLMShaA
namespace Go.Proofs.YthaicocfbmpnmaaDoor
open Go.ChangeShapes Go.WideShapes Go.ChangeAt Go.RowKit

/-- the package's tables, as its initialisation leaves them -/
structure ShaTab (w : World) : Prop where
  lt : 1 < w.heap.size
  lt0 : 0 < w.heap.size
  keys : ∀ j, j < 64 → w.cell? ⟨1, j, none⟩ = some (.int .u32 (Sha.keys.getD j 0 : Nat))
  start : w.cell? ⟨0, 0, none⟩ = some (.int .u32 (Sha.start.a : Nat)) ∧ w.cell? ⟨0, 1, none⟩ = some (.int .u32 (Sha.start.b : Nat)) ∧ w.cell? ⟨0, 2, none⟩ = some (.int .u32 (Sha.start.c : Nat)) ∧ w.cell? ⟨0, 3, none⟩ = some (.int .u32 (Sha.start.d : Nat)) ∧
    w.cell? ⟨0, 4, none⟩ = some (.int .u32 (Sha.start.e : Nat)) ∧ w.cell? ⟨0, 5, none⟩ = some (.int .u32 (Sha.start.f : Nat)) ∧ w.cell? ⟨0, 6, none⟩ = some (.int .u32 (Sha.start.g : Nat)) ∧ w.cell? ⟨0, 7, none⟩ = some (.int .u32 (Sha.start.h : Nat))
set_option maxRecDepth 100000 in
theorem ShaTab.same {w w' : World} (h : ShaTab w) (hs : w.heap.size ≤ w'.heap.size) (h1 : ∀ j, w'.cell? ⟨1, j, none⟩ = w.cell? ⟨1, j, none⟩) (h0 : ∀ j, w'.cell? ⟨0, j, none⟩ = w.cell? ⟨0, j, none⟩) : ShaTab w' :=
  ⟨Nat.lt_of_lt_of_le h.lt hs, Nat.lt_of_lt_of_le h.lt0 hs, fun j hj => (h1 j).trans (h.keys j hj), by simp only [h0]; exact h.start⟩
set_option maxRecDepth 100000 in
theorem ShaTab.below {w w' : World} (h : ShaTab w) (hb : Below w.heap.size w w') : ShaTab w' := h.same hb.size (fun j => hb.cell (p := ⟨_, j, none⟩) h.lt) (fun j => hb.cell (p := ⟨_, j, none⟩) h.lt0)
set_option maxRecDepth 100000 in
theorem ShaTab.but {w w' : World} {b : Nat} (h : ShaTab w) (hb : But b w w') (h1 : b ≠ 1) (h0 : b ≠ 0) : ShaTab w' := h.same hb.size (fun _ => hb.cell h.lt (Ne.symm h1)) (fun _ => hb.cell h.lt0 (Ne.symm h0))

/-- the eight cells of a state -/
def stCells (s : Sha.St) : List Value := [.int .u32 s.a, .int .u32 s.b, .int .u32 s.c, .int .u32 s.d, .int .u32 s.e, .int .u32 s.f, .int .u32 s.g, .int .u32 s.h]

set_option maxRecDepth 100000 in
theorem rot_q {w : World} {x0 : Ext w} (x n : Nat) (m : Int) (hx : x < 4294967296) (h1 : 1 ≤ n) (h2 : n ≤ 31) (hm : m = -(n : Int)) :
    Calls Tryd.prog 98 #[.int .u32 x, .int .i64 m] x0.at_ fun e w'' => e = .returned (.int .u32 (Sha.rotr n x : Nat)) ∧ ∃ y : Ext w, w'' = y.at_ :=
  (rot_int x n m _ hx h1 h2 hm).mono fun _ _ ⟨he, hw⟩ => ⟨he, x0, hw.symm⟩

set_option maxRecDepth 100000 in
theorem stCells_get (s : Sha.St) (R : List Value) : (stCells s ++ R).toArray[0]? = some (.int .u32 s.a) ∧ (stCells s ++ R).toArray[1]? = some (.int .u32 s.b) ∧ (stCells s ++ R).toArray[2]? = some (.int .u32 s.c) ∧ (stCells s ++ R).toArray[3]? = some (.int .u32 s.d) ∧
    (stCells s ++ R).toArray[4]? = some (.int .u32 s.e) ∧ (stCells s ++ R).toArray[5]? = some (.int .u32 s.f) ∧ (stCells s ++ R).toArray[6]? = some (.int .u32 s.g) ∧ (stCells s ++ R).toArray[7]? = some (.int .u32 s.h) := ⟨rfl, rfl, rfl, rfl, rfl, rfl, rfl, rfl⟩

set_option maxHeartbeats 8000000 in
set_option maxRecDepth 100000 in
theorem process_any (ph : Nat) (T : TypeId) (s : Sha.St) (R : List Value) (a : Option Addr) (cap : Nat) (bl : List Int) (w : World) (hs : Ok s) (hk : Blk w ph (stCells s ++ R).toArray T) (hT : TextAt w a 64 cap bl) (tab : ShaTab w) (_hp1 : ph ≠ 1) :
    Calls Tryd.prog 90 #[.pointer (some ⟨ph, 0, none⟩), .slice a 64 cap] w fun e w' => e = .returned (.tuple #[]) ∧ But ph w w' ∧ Blk w' ph (stCells (Sha.compress s (natB bl)) ++ R).toArray T := by
  have hmx := hT.max
  have hne : ∀ p : Addr, a = some p → p.block ≠ w.heap.size := fun p hp => by
    obtain ⟨x, o, h1, h2, _⟩ := hT.at_ (by decide)
    rw [h1] at hp
    cases hp
    exact Nat.ne_of_lt h2
  have HT := hid hT
  have Hne := hid hne
  clear hT hne
  go_enter Tryd.func90, Tryd.ntmps90
  go_wp2_with fail
  refine (schedule_any _ 137 a cap bl _ (Blk.new rfl _ _) (HT.out.below ((Below.refl _ _).alloc (Nat.le_refl _) _)) Hne.out).mono ?_
  rintro e w2 ⟨rfl, b2, kW⟩
  have b2' : Below w.heap.size w w2 := b2.below ((Below.refl _ _).alloc (Nat.le_refl _) _) (by rw [World.size_alloc]; omega) (Nat.le_refl _)
  have kP := hk.below b2'
  have tab2 := tab.below b2'
  have but := But.of (b := ph) b2'
  have hlt := hk.lt
  have hpw : w.heap.size ≠ ph := by omega
  generalize hpb : w.heap.size = pb at *
  have Hpb := hid hpb
  clear b2 hk tab hpb b2'
  have Hk := hid kP
  have HW := hid kW
  go_wp2_with fail
  refine wp_region_flow 40 [0, 1, 2, 3, 4, 5, 6, 7, 8, 9, 10, 11, 12, 13, 14, 15, 16, 17, 18, 19, 20, 21, 22, 23, 24, 25, 26, 27, 28, 29, 30, 31, 32, 33, 34, 35, 36, 37, 38, 39] [] [] (by kernel_rfl) (by kernel_rfl) ?_
  apply Exists.intro
  refine ⟨fun w0 hb0 hF0 => ?_, ?_⟩
  · have k0 : ∀ (e : Ext w0) (o : Nat), e.at_.cell? ⟨ph, o, none⟩ = (stCells s ++ R).toArray[o]? := fun e o => ((kP.below hb0).below e.same).cell o
    obtain ⟨g0, g1, g2, g3, g4, g5, g6, g7⟩ := stCells_get s R
    have c0 := fun e => (k0 e 0).trans g0
    have c1 := fun e => (k0 e 1).trans g1
    have c2 := fun e => (k0 e 2).trans g2
    have c3 := fun e => (k0 e 3).trans g3
    have c4 := fun e => (k0 e 4).trans g4
    have c5 := fun e => (k0 e 5).trans g5
    have c6 := fun e => (k0 e 6).trans g6
    have c7 := fun e => (k0 e 7).trans g7
    clear k0
    simp only [pick, List.getElem?_toArray, List.getElem?_cons_succ, List.getElem?_cons_zero, Option.toList_some, List.cons_append, List.nil_append]
    repeat (go_big_quiet_step (fail))
    exact wpQuiet_nil rfl
  refine AlChk.nil ?_
  refine Walk.fin fun w3 h3 _ _ => ?_
  simp only [List.drop_succ_cons, List.drop_zero]
  have kP3 := kP.below h3
  have kW3 := kW.below h3
  have tab3 := tab2.below h3
  have but3 := but.ext h3
  have hlt3 : ph < w3.heap.size := kP3.lt
  clear kP kW tab2 but h3 Hk HW
  go_wp2_with fail
  go_loopw [5, 6, 7, 8, 9, 10, 11, 12, 51] (fun va vb vc vd ve vf vg vh i wr => ∃ k : Nat, k ≤ 64 ∧ i = .int .i64 k ∧ va = .int .u32 (Sha.rounds (Sha.sched (natB bl) 64) s k).a ∧ vb = .int .u32 (Sha.rounds (Sha.sched (natB bl) 64) s k).b ∧ vc = .int .u32 (Sha.rounds (Sha.sched (natB bl) 64) s k).c ∧ vd = .int .u32 (Sha.rounds (Sha.sched (natB bl) 64) s k).d ∧ ve = .int .u32 (Sha.rounds (Sha.sched (natB bl) 64) s k).e ∧ vf = .int .u32 (Sha.rounds (Sha.sched (natB bl) 64) s k).f ∧ vg = .int .u32 (Sha.rounds (Sha.sched (natB bl) 64) s k).g ∧ vh = .int .u32 (Sha.rounds (Sha.sched (natB bl) 64) s k).h ∧ Blk wr pb (wordCells 64 (Sha.sched (natB bl) 64)) 137 ∧ Blk wr ph (stCells s ++ R).toArray T ∧ ShaTab wr ∧ But ph w wr) (fun _ _ _ _ _ _ _ _ i _ => 64 - (intOf i).toNat)
  case atStart => exact ⟨0, by omega, rfl, rfl, rfl, rfl, rfl, rfl, rfl, rfl, rfl, kW3, kP3, tab3, but3⟩
  case round =>
    clear kW3 kP3 tab3 but3
    obtain ⟨k, hk, rfl, rfl, rfl, rfl, rfl, rfl, rfl, rfl, rfl, kW, kP, tab, but⟩ := hrel
    have ok := hs.rounds (Sha.sched (natB bl) 64) k
    by_cases hlt : k < 64
    · have hl := sched_length (natB bl) 64
      have qW := wordCells_get 64 (Sha.sched (natB bl) 64) k (by omega)
      rw [← kW.cell] at qW
      have qK := tab.keys k hlt
      have lK := keys_lt k
      have hbw := sched_lt (natB bl) (fun j => (natB_getD bl HT.out.small j).2) 64 k
      have HR : Hid (Sha.rounds (Sha.sched (natB bl) 64) s (k + 1) = Sha.round (Sha.keys.getD k 0) ((Sha.sched (natB bl) 64).getD k 0) (Sha.rounds (Sha.sched (natB bl) 64) s k)) := hid rfl
      generalize Sha.keys.getD k 0 = K at *
      generalize (Sha.sched (natB bl) 64).getD k 0 = W at *
      generalize Sha.rounds (Sha.sched (natB bl) 64) s k = r at *
      obtain ⟨xa, xb, xc, xd, xe, xf, xg, xh⟩ := r
      obtain ⟨oa, ob, oc, od, oe, of, og, oh⟩ := ok
      simp only [] at oa ob oc od oe of og oh ⊢
      have HO := hid (And.intro oa (And.intro ob (And.intro oc (And.intro od (And.intro oe (And.intro of (And.intro og oh)))))))
      clear oa ob oc od oe of og oh hl hbw lK
      have Hbut := hid but
      have HkP := hid kP
      clear but kP
      go_wp2_with fail
      refine wp_region_flow 6 [0, 1, 2, 3, 4, 5] [] [] (by kernel_rfl) (by kernel_rfl) ?_
      apply Exists.intro
      refine ⟨fun w0 hb0 hF0 => ?_, ?_⟩
      · have c0 : ∀ e : Ext w0, e.at_.cell? ⟨pb, k, none⟩ = some (.int .u32 W) := fun e => by rw [((kW.below hb0).below e.same).cell, ← kW.cell]; exact qW
        simp only [pick, List.getElem?_toArray, List.getElem?_cons_succ, List.getElem?_cons_zero, Option.toList_some, List.cons_append, List.nil_append]
        repeat (go_big_quiet_step (fail))
        exact wpQuiet_nil rfl
      refine AlChk.nil ?_
      refine Walk.fin fun w3 h3 _ _ => ?_
      simp only [List.drop_succ_cons, List.drop_zero]
      have qK3 : w3.cell? ⟨1, k, none⟩ = some (.int .u32 (K : Nat)) := (h3.cell (p := ⟨_, k, none⟩) tab.lt).trans qK
      have hlt3 : 1 < w3.heap.size := Nat.lt_of_lt_of_le tab.lt h3.size
      have oe := HO.out.2.2.2.2.1
      go_wp2_with fail
      refine wp_region_flow 25 [0, 1, 2, 3, 4, 5, 6, 7, 8, 9, 10, 11, 12, 13, 14, 15, 16, 17, 18, 19, 20, 21, 22, 23, 24] [] [] (by kernel_rfl) (by kernel_rfl) ?_
      apply Exists.intro
      refine ⟨fun w0 hb0 hF0 => ?_, ?_⟩
      · have c0 : ∀ e : Ext w0, e.at_.cell? ⟨1, k, none⟩ = some (.int .u32 (K : Nat)) := fun e => ((Below.on hb0 e.same).cell (p := ⟨_, k, none⟩) hlt3).trans qK3
        have b1 := bits_S1 oe
        have b3 := bits_ch oe HO.out.2.2.2.2.2.1 HO.out.2.2.2.2.2.2.1
        simp only [pick, List.getElem?_toArray, List.getElem?_cons_succ, List.getElem?_cons_zero, Option.toList_some, List.cons_append, List.nil_append]
        repeat (go_big_quiet_step (first | (go_at_call 98; exact rot_q _ 6 _ oe (by decide) (by decide) (by decide)) | (go_at_call 98; exact rot_q _ 11 _ oe (by decide) (by decide) (by decide)) | (go_at_call 98; exact rot_q _ 25 _ oe (by decide) (by decide) (by decide))))
        exact wpQuiet_nil rfl
      refine AlChk.nil ?_
      refine Walk.fin fun w4 h4 _ _ => ?_
      simp only [List.drop_succ_cons, List.drop_zero]
      have kW4 := (kW.below h3).below h4
      have kP4 := (HkP.out.below h3).below h4
      have tab4 := (tab.below h3).below h4
      have but4 := (Hbut.out.ext h3).ext h4
      have Hw := hid (And.intro kW4 (And.intro kP4 (And.intro tab4 but4)))
      clear kW4 kP4 tab4 but4 h3 h4 qK3 hlt3 qK qW kW tab Hbut HkP
      have oa := HO.out.1
      go_wp2_with fail
      have b2 := bits_S0 oa
      have b4 := bits_maj oa HO.out.2.1 HO.out.2.2.1
      go_wp2_with (first | (go_at_call 98; refine (rot_int _ 2 _ _ oa (by decide) (by decide) (by decide)).mono ?_; rintro e w5 ⟨rfl, rfl⟩) | (go_at_call 98; refine (rot_int _ 13 _ _ oa (by decide) (by decide) (by decide)).mono ?_; rintro e w5 ⟨rfl, rfl⟩) | (go_at_call 98; refine (rot_int _ 22 _ _ oa (by decide) (by decide) (by decide)).mono ?_; rintro e w5 ⟨rfl, rfl⟩))
      obtain ⟨kW4, kP4, tab4, but4⟩ := Hw.out
      refine ⟨⟨k + 1, by omega, by go_num, ?_, ?_, ?_, ?_, ?_, ?_, ?_, ?_, kW4, kP4, tab4, but4⟩, by simp [intOf]; omega⟩
      · rw [HR.out]; exact congrArg (Value.int .u32) (by simp only [Sha.round, Sha.t1, Sha.t2, Sha.M]; omega)
      · rw [HR.out]; rfl
      · rw [HR.out]; rfl
      · rw [HR.out]; rfl
      · rw [HR.out]; exact congrArg (Value.int .u32) (by simp only [Sha.round, Sha.t1, Sha.t2, Sha.M]; omega)
      · rw [HR.out]; rfl
      · rw [HR.out]; rfl
      · rw [HR.out]; rfl
    · have h64 : k = 64 := by omega
      have HF : Hid (Sha.compress s (natB bl) = Sha.add s (Sha.rounds (Sha.sched (natB bl) 64) s k)) := hid (by rw [h64]; rfl)
      have H64 := hid h64
      generalize Sha.rounds (Sha.sched (natB bl) 64) s k = r at *
      clear h64 kW tab HT Hne hmx ok hs
      have HkP := hid kP
      have Hbut := hid but
      clear kP but
      go_wp2_with fail
      have but := Hbut.out
      obtain ⟨ra, rb, rc, rd, re, rf, rg, rh⟩ := r
      obtain ⟨sa, sb, sc, sd, se, sf, sg, sh⟩ := s
      have kP : Blk wr ph (Value.int .u32 sa :: .int .u32 sb :: .int .u32 sc :: .int .u32 sd :: .int .u32 se :: .int .u32 sf :: .int .u32 sg :: .int .u32 sh :: R).toArray T := HkP.out
      clear HkP Hbut H64 hlt hk Hpb
      refine wp_region_flow 8 [0, 1, 2, 3, 4, 5, 6, 7] [] [] (by kernel_rfl) (by kernel_rfl) ?_
      apply Exists.intro
      refine ⟨fun w0 hb0 hF0 => ?_, ?_⟩
      · have c0 : ∀ e : Ext w0, e.at_.cell? ⟨ph, 0, none⟩ = some (.int .u32 sa) := fun e => (((kP.below hb0).below e.same).cell 0).trans rfl
        simp only [pick, List.getElem?_toArray, List.getElem?_cons_succ, List.getElem?_cons_zero, Option.toList_some, List.cons_append, List.nil_append]
        repeat (go_big_quiet_step (fail))
        exact wpQuiet_nil rfl
      refine AlChk.nil ?_
      refine Walk.fin fun w3 h3 _ _ => ?_
      simp only [List.drop_succ_cons, List.drop_zero]
      have kP3 := kP.below h3
      have but3 := but.ext h3
      have q : w3.cell? ⟨ph, 0, none⟩ = some (.int .u32 sa) := (kP3.cell 0).trans rfl
      have f1 := kP3.free
      clear kP but h3
      have HkP := hid kP3
      clear kP3
      go_wp2_with fail
      have kP := HkP.out.set 0 (.int .u32 (((sa : Int) + (ra : Int)) % 4294967296))
      have but := but3.set (p := ⟨ph, 0, none⟩) (.inl rfl) (.int .u32 (((sa : Int) + (ra : Int)) % 4294967296))
      simp only [List.setIfInBounds_toArray, List.set_cons_zero] at kP
      generalize hv : w3.setCell ⟨ph, 0, none⟩ (.int .u32 (((sa : Int) + (ra : Int)) % 4294967296)) = v1 at *
      clear hv but3 q f1 HkP
      refine wp_region_flow 8 [0, 1, 2, 3, 4, 5, 6, 7] [] [] (by kernel_rfl) (by kernel_rfl) ?_
      apply Exists.intro
      refine ⟨fun w0 hb0 hF0 => ?_, ?_⟩
      · have c0 : ∀ e : Ext w0, e.at_.cell? ⟨ph, 1, none⟩ = some (.int .u32 sb) := fun e => (((kP.below hb0).below e.same).cell 1).trans rfl
        simp only [pick, List.getElem?_toArray, List.getElem?_cons_succ, List.getElem?_cons_zero, Option.toList_some, List.cons_append, List.nil_append]
        repeat (go_big_quiet_step (fail))
        exact wpQuiet_nil rfl
      refine AlChk.nil ?_
      refine Walk.fin fun w3 h3 _ _ => ?_
      simp only [List.drop_succ_cons, List.drop_zero]
      have kP3 := kP.below h3
      have but3 := but.ext h3
      have q : w3.cell? ⟨ph, 1, none⟩ = some (.int .u32 sb) := (kP3.cell 1).trans rfl
      have f1 := kP3.free
      clear kP but h3
      have HkP := hid kP3
      clear kP3
      go_wp2_with fail
      have kP := HkP.out.set 1 (.int .u32 (((sb : Int) + (rb : Int)) % 4294967296))
      have but := but3.set (p := ⟨ph, 1, none⟩) (.inl rfl) (.int .u32 (((sb : Int) + (rb : Int)) % 4294967296))
      simp only [List.setIfInBounds_toArray, List.set_cons_zero, List.set_cons_succ] at kP
      generalize hv : w3.setCell ⟨ph, 1, none⟩ (.int .u32 (((sb : Int) + (rb : Int)) % 4294967296)) = v2 at *
      clear hv but3 q f1 HkP
      refine wp_region_flow 8 [0, 1, 2, 3, 4, 5, 6, 7] [] [] (by kernel_rfl) (by kernel_rfl) ?_
      apply Exists.intro
      refine ⟨fun w0 hb0 hF0 => ?_, ?_⟩
      · have c0 : ∀ e : Ext w0, e.at_.cell? ⟨ph, 2, none⟩ = some (.int .u32 sc) := fun e => (((kP.below hb0).below e.same).cell 2).trans rfl
        simp only [pick, List.getElem?_toArray, List.getElem?_cons_succ, List.getElem?_cons_zero, Option.toList_some, List.cons_append, List.nil_append]
        repeat (go_big_quiet_step (fail))
        exact wpQuiet_nil rfl
      refine AlChk.nil ?_
      refine Walk.fin fun w3 h3 _ _ => ?_
      simp only [List.drop_succ_cons, List.drop_zero]
      have kP3 := kP.below h3
      have but3 := but.ext h3
      have q : w3.cell? ⟨ph, 2, none⟩ = some (.int .u32 sc) := (kP3.cell 2).trans rfl
      have f1 := kP3.free
      clear kP but h3
      have HkP := hid kP3
      clear kP3
      go_wp2_with fail
      have kP := HkP.out.set 2 (.int .u32 (((sc : Int) + (rc : Int)) % 4294967296))
      have but := but3.set (p := ⟨ph, 2, none⟩) (.inl rfl) (.int .u32 (((sc : Int) + (rc : Int)) % 4294967296))
      simp only [List.setIfInBounds_toArray, List.set_cons_zero, List.set_cons_succ] at kP
      generalize hv : w3.setCell ⟨ph, 2, none⟩ (.int .u32 (((sc : Int) + (rc : Int)) % 4294967296)) = v3 at *
      clear hv but3 q f1 HkP
      refine wp_region_flow 8 [0, 1, 2, 3, 4, 5, 6, 7] [] [] (by kernel_rfl) (by kernel_rfl) ?_
      apply Exists.intro
      refine ⟨fun w0 hb0 hF0 => ?_, ?_⟩
      · have c0 : ∀ e : Ext w0, e.at_.cell? ⟨ph, 3, none⟩ = some (.int .u32 sd) := fun e => (((kP.below hb0).below e.same).cell 3).trans rfl
        simp only [pick, List.getElem?_toArray, List.getElem?_cons_succ, List.getElem?_cons_zero, Option.toList_some, List.cons_append, List.nil_append]
        repeat (go_big_quiet_step (fail))
        exact wpQuiet_nil rfl
      refine AlChk.nil ?_
      refine Walk.fin fun w3 h3 _ _ => ?_
      simp only [List.drop_succ_cons, List.drop_zero]
      have kP3 := kP.below h3
      have but3 := but.ext h3
      have q : w3.cell? ⟨ph, 3, none⟩ = some (.int .u32 sd) := (kP3.cell 3).trans rfl
      have f1 := kP3.free
      clear kP but h3
      have HkP := hid kP3
      clear kP3
      go_wp2_with fail
      have kP := HkP.out.set 3 (.int .u32 (((sd : Int) + (rd : Int)) % 4294967296))
      have but := but3.set (p := ⟨ph, 3, none⟩) (.inl rfl) (.int .u32 (((sd : Int) + (rd : Int)) % 4294967296))
      simp only [List.setIfInBounds_toArray, List.set_cons_zero, List.set_cons_succ] at kP
      generalize hv : w3.setCell ⟨ph, 3, none⟩ (.int .u32 (((sd : Int) + (rd : Int)) % 4294967296)) = v4 at *
      clear hv but3 q f1 HkP
      refine wp_region_flow 8 [0, 1, 2, 3, 4, 5, 6, 7] [] [] (by kernel_rfl) (by kernel_rfl) ?_
      apply Exists.intro
      refine ⟨fun w0 hb0 hF0 => ?_, ?_⟩
      · have c0 : ∀ e : Ext w0, e.at_.cell? ⟨ph, 4, none⟩ = some (.int .u32 se) := fun e => (((kP.below hb0).below e.same).cell 4).trans rfl
        simp only [pick, List.getElem?_toArray, List.getElem?_cons_succ, List.getElem?_cons_zero, Option.toList_some, List.cons_append, List.nil_append]
        repeat (go_big_quiet_step (fail))
        exact wpQuiet_nil rfl
      refine AlChk.nil ?_
      refine Walk.fin fun w3 h3 _ _ => ?_
      simp only [List.drop_succ_cons, List.drop_zero]
      have kP3 := kP.below h3
      have but3 := but.ext h3
      have q : w3.cell? ⟨ph, 4, none⟩ = some (.int .u32 se) := (kP3.cell 4).trans rfl
      have f1 := kP3.free
      clear kP but h3
      have HkP := hid kP3
      clear kP3
      go_wp2_with fail
      have kP := HkP.out.set 4 (.int .u32 (((se : Int) + (re : Int)) % 4294967296))
      have but := but3.set (p := ⟨ph, 4, none⟩) (.inl rfl) (.int .u32 (((se : Int) + (re : Int)) % 4294967296))
      simp only [List.setIfInBounds_toArray, List.set_cons_zero, List.set_cons_succ] at kP
      generalize hv : w3.setCell ⟨ph, 4, none⟩ (.int .u32 (((se : Int) + (re : Int)) % 4294967296)) = v5 at *
      clear hv but3 q f1 HkP
      refine wp_region_flow 8 [0, 1, 2, 3, 4, 5, 6, 7] [] [] (by kernel_rfl) (by kernel_rfl) ?_
      apply Exists.intro
      refine ⟨fun w0 hb0 hF0 => ?_, ?_⟩
      · have c0 : ∀ e : Ext w0, e.at_.cell? ⟨ph, 5, none⟩ = some (.int .u32 sf) := fun e => (((kP.below hb0).below e.same).cell 5).trans rfl
        simp only [pick, List.getElem?_toArray, List.getElem?_cons_succ, List.getElem?_cons_zero, Option.toList_some, List.cons_append, List.nil_append]
        repeat (go_big_quiet_step (fail))
        exact wpQuiet_nil rfl
      refine AlChk.nil ?_
      refine Walk.fin fun w3 h3 _ _ => ?_
      simp only [List.drop_succ_cons, List.drop_zero]
      have kP3 := kP.below h3
      have but3 := but.ext h3
      have q : w3.cell? ⟨ph, 5, none⟩ = some (.int .u32 sf) := (kP3.cell 5).trans rfl
      have f1 := kP3.free
      clear kP but h3
      have HkP := hid kP3
      clear kP3
      go_wp2_with fail
      have kP := HkP.out.set 5 (.int .u32 (((sf : Int) + (rf : Int)) % 4294967296))
      have but := but3.set (p := ⟨ph, 5, none⟩) (.inl rfl) (.int .u32 (((sf : Int) + (rf : Int)) % 4294967296))
      simp only [List.setIfInBounds_toArray, List.set_cons_zero, List.set_cons_succ] at kP
      generalize hv : w3.setCell ⟨ph, 5, none⟩ (.int .u32 (((sf : Int) + (rf : Int)) % 4294967296)) = v6 at *
      clear hv but3 q f1 HkP
      refine wp_region_flow 8 [0, 1, 2, 3, 4, 5, 6, 7] [] [] (by kernel_rfl) (by kernel_rfl) ?_
      apply Exists.intro
      refine ⟨fun w0 hb0 hF0 => ?_, ?_⟩
      · have c0 : ∀ e : Ext w0, e.at_.cell? ⟨ph, 6, none⟩ = some (.int .u32 sg) := fun e => (((kP.below hb0).below e.same).cell 6).trans rfl
        simp only [pick, List.getElem?_toArray, List.getElem?_cons_succ, List.getElem?_cons_zero, Option.toList_some, List.cons_append, List.nil_append]
        repeat (go_big_quiet_step (fail))
        exact wpQuiet_nil rfl
      refine AlChk.nil ?_
      refine Walk.fin fun w3 h3 _ _ => ?_
      simp only [List.drop_succ_cons, List.drop_zero]
      have kP3 := kP.below h3
      have but3 := but.ext h3
      have q : w3.cell? ⟨ph, 6, none⟩ = some (.int .u32 sg) := (kP3.cell 6).trans rfl
      have f1 := kP3.free
      clear kP but h3
      have HkP := hid kP3
      clear kP3
      go_wp2_with fail
      have kP := HkP.out.set 6 (.int .u32 (((sg : Int) + (rg : Int)) % 4294967296))
      have but := but3.set (p := ⟨ph, 6, none⟩) (.inl rfl) (.int .u32 (((sg : Int) + (rg : Int)) % 4294967296))
      simp only [List.setIfInBounds_toArray, List.set_cons_zero, List.set_cons_succ] at kP
      generalize hv : w3.setCell ⟨ph, 6, none⟩ (.int .u32 (((sg : Int) + (rg : Int)) % 4294967296)) = v7 at *
      clear hv but3 q f1 HkP
      refine wp_region_flow 8 [0, 1, 2, 3, 4, 5, 6, 7] [] [] (by kernel_rfl) (by kernel_rfl) ?_
      apply Exists.intro
      refine ⟨fun w0 hb0 hF0 => ?_, ?_⟩
      · have c0 : ∀ e : Ext w0, e.at_.cell? ⟨ph, 7, none⟩ = some (.int .u32 sh) := fun e => (((kP.below hb0).below e.same).cell 7).trans rfl
        simp only [pick, List.getElem?_toArray, List.getElem?_cons_succ, List.getElem?_cons_zero, Option.toList_some, List.cons_append, List.nil_append]
        repeat (go_big_quiet_step (fail))
        exact wpQuiet_nil rfl
      refine AlChk.nil ?_
      refine Walk.fin fun w3 h3 _ _ => ?_
      simp only [List.drop_succ_cons, List.drop_zero]
      have kP3 := kP.below h3
      have but3 := but.ext h3
      have q : w3.cell? ⟨ph, 7, none⟩ = some (.int .u32 sh) := (kP3.cell 7).trans rfl
      have f1 := kP3.free
      clear kP but h3
      have HkP := hid kP3
      clear kP3
      go_wp2_with fail
      have kP := HkP.out.set 7 (.int .u32 (((sh : Int) + (rh : Int)) % 4294967296))
      have but := but3.set (p := ⟨ph, 7, none⟩) (.inl rfl) (.int .u32 (((sh : Int) + (rh : Int)) % 4294967296))
      simp only [List.setIfInBounds_toArray, List.set_cons_zero, List.set_cons_succ] at kP
      go_returns
      refine ⟨rfl, but, ?_⟩
      rw [HF.out]
      have em : ∀ x y : Nat, (((x + y) % 4294967296 : Nat) : Int) = ((x : Int) + y) % 4294967296 := fun x y => by omega
      have : stCells (Sha.add ⟨sa, sb, sc, sd, se, sf, sg, sh⟩ ⟨ra, rb, rc, rd, re, rf, rg, rh⟩) ++ R = Value.int .u32 (((sa : Int) + (ra : Int)) % 4294967296) :: Value.int .u32 (((sb : Int) + (rb : Int)) % 4294967296) :: Value.int .u32 (((sc : Int) + (rc : Int)) % 4294967296) :: Value.int .u32 (((sd : Int) + (rd : Int)) % 4294967296) :: Value.int .u32 (((se : Int) + (re : Int)) % 4294967296) :: Value.int .u32 (((sf : Int) + (rf : Int)) % 4294967296) :: Value.int .u32 (((sg : Int) + (rg : Int)) % 4294967296) :: Value.int .u32 (((sh : Int) + (rh : Int)) % 4294967296) :: R := by
        simp only [stCells, Sha.add, em, List.cons_append, List.nil_append]
      rw [this]
      exact kP
end Go.Proofs.YthaicocfbmpnmaaDoor
