/-
  Put together, as far as wanted: ELNShaProc ELNShaAdd ELMShaP ELNShaFin ELMShaB ELMShaC ELNShaRefSum ELMDig ELMMac ELMAdrs ELMKeyed ELMKeyedRef ELMChain ELMFrame ELMDigits ELNDigs ELPLt ELPWots.
-/
import Derived.Test.YtkakoiaahgchmaaDoorPT1
namespace Go.Proofs.YtkakoiaahgchmaaDoor
set_option maxRecDepth 100000
open Go.ChangeShapes Go.WideShapes Go.ChangeAt Go.RowKit
/-- the package's tables, as its initialisation leaves them -/
structure ShaTab (w : World) : Prop where
  lt : 1 < w.heap.size
  lt0 : 0 < w.heap.size
  keys : ∀ j, j < 64 → w.cell? ⟨1, j, none⟩ = some (.int .u32 (Sha.keys.getD j 0 : Nat))
  start : w.cell? ⟨0, 0, none⟩ = some (.int .u32 (Sha.start.a : Nat)) ∧ w.cell? ⟨0, 1, none⟩ = some (.int .u32 (Sha.start.b : Nat)) ∧ w.cell? ⟨0, 2, none⟩ = some (.int .u32 (Sha.start.c : Nat)) ∧ w.cell? ⟨0, 3, none⟩ = some (.int .u32 (Sha.start.d : Nat)) ∧
    w.cell? ⟨0, 4, none⟩ = some (.int .u32 (Sha.start.e : Nat)) ∧ w.cell? ⟨0, 5, none⟩ = some (.int .u32 (Sha.start.f : Nat)) ∧ w.cell? ⟨0, 6, none⟩ = some (.int .u32 (Sha.start.g : Nat)) ∧ w.cell? ⟨0, 7, none⟩ = some (.int .u32 (Sha.start.h : Nat))
theorem ShaTab.same {w w' : World} (h : ShaTab w) (hs : w.heap.size ≤ w'.heap.size) (h1 : ∀ j, w'.cell? ⟨1, j, none⟩ = w.cell? ⟨1, j, none⟩) (h0 : ∀ j, w'.cell? ⟨0, j, none⟩ = w.cell? ⟨0, j, none⟩) : ShaTab w' :=
  ⟨Nat.lt_of_lt_of_le h.lt hs, Nat.lt_of_lt_of_le h.lt0 hs, fun j hj => (h1 j).trans (h.keys j hj), by simp only [h0]; exact h.start⟩
theorem ShaTab.below {w w' : World} (h : ShaTab w) (hb : Below w.heap.size w w') : ShaTab w' := h.same hb.size (fun j => hb.cell (p := ⟨_, j, none⟩) h.lt) (fun j => hb.cell (p := ⟨_, j, none⟩) h.lt0)
theorem ShaTab.but {w w' : World} {b : Nat} (h : ShaTab w) (hb : But b w w') (h1 : b ≠ 1) (h0 : b ≠ 0) : ShaTab w' := h.same hb.size (fun _ => hb.cell h.lt (Ne.symm h1)) (fun _ => hb.cell h.lt0 (Ne.symm h0))
/-- the eight cells of a state -/
def stCells (s : Sha.St) : List Value := [.int .u32 s.a, .int .u32 s.b, .int .u32 s.c, .int .u32 s.d, .int .u32 s.e, .int .u32 s.f, .int .u32 s.g, .int .u32 s.h]
theorem rot_q {w : World} {x0 : Ext w} (x n : Nat) (m : Int) (hx : x < 4294967296) (h1 : 1 ≤ n) (h2 : n ≤ 31) (hm : m = -(n : Int)) :
    Calls Tryd.prog 88 #[.int .u32 x, .int .i64 m] x0.at_ fun e w'' => e = .returned (.int .u32 (Sha.rotr n x : Nat)) ∧ ∃ y : Ext w, w'' = y.at_ :=
  (rot_int x n m _ hx h1 h2 hm).mono fun _ _ ⟨he, hw⟩ => ⟨he, x0, hw.symm⟩
theorem stCells_get (s : Sha.St) (R : List Value) : (stCells s ++ R).toArray[0]? = some (.int .u32 s.a) ∧ (stCells s ++ R).toArray[1]? = some (.int .u32 s.b) ∧ (stCells s ++ R).toArray[2]? = some (.int .u32 s.c) ∧ (stCells s ++ R).toArray[3]? = some (.int .u32 s.d) ∧
    (stCells s ++ R).toArray[4]? = some (.int .u32 s.e) ∧ (stCells s ++ R).toArray[5]? = some (.int .u32 s.f) ∧ (stCells s ++ R).toArray[6]? = some (.int .u32 s.g) ∧ (stCells s ++ R).toArray[7]? = some (.int .u32 s.h) := ⟨rfl, rfl, rfl, rfl, rfl, rfl, rfl, rfl⟩
set_option maxHeartbeats 8000000 in
theorem process_any (ph : Nat) (T : TypeId) (s : Sha.St) (R : List Value) (a : Option Addr) (cap : Nat) (bl : List Int) (w : World) (hs : Ok s) (hk : Blk w ph (stCells s ++ R).toArray T) (hT : TextAt w a 64 cap bl) (tab : ShaTab w) (_hp1 : ph ≠ 1) :
    Calls Tryd.prog 86 #[.pointer (some ⟨ph, 0, none⟩), .slice a 64 cap] w fun e w' => e = .returned (.tuple #[]) ∧ But ph w w' ∧ Blk w' ph (stCells (Sha.compress s (natB bl)) ++ R).toArray T := by
  have hmx := hT.max
  have hne : ∀ p : Addr, a = some p → p.block ≠ w.heap.size := fun p hp => by
    obtain ⟨x, o, h1, h2, _⟩ := hT.at_ (by decide)
    rw [h1] at hp
    cases hp
    exact Nat.ne_of_lt h2
  have HT := hid hT
  have Hne := hid hne
  clear hT hne
  go_enter Tryd.func86, Tryd.ntmps86
  go_wp2_with fail
  refine (schedule_any _ 127 a cap bl _ (Blk.new rfl _ _) (HT.out.below ((Below.refl _ _).alloc (Nat.le_refl _) _)) Hne.out).mono ?_
  rintro e w2 ⟨rfl, b2, kW⟩
  have b2' : Below w.heap.size w w2 := b2.below ((Below.refl _ _).alloc (Nat.le_refl _) _) (by rw [World.size_alloc]; omega) (Nat.le_refl _)
  have kP := hk.below b2'
  have tab2 := tab.below b2'
  have but := But.of (b := ph) b2'
  have hlt := hk.lt
  have hpw : w.heap.size ≠ ph := by omega
  generalize hpb : w.heap.size = pb at *
  have Hpb := hid hpb
  clear b2 hk tab hpb b2'
  have Hk := hid kP
  have HW := hid kW
  go_wp2_with fail
  refine wp_region_flow 40 [0, 1, 2, 3, 4, 5, 6, 7, 8, 9, 10, 11, 12, 13, 14, 15, 16, 17, 18, 19, 20, 21, 22, 23, 24, 25, 26, 27, 28, 29, 30, 31, 32, 33, 34, 35, 36, 37, 38, 39] [] [] (by kernel_rfl) (by kernel_rfl) ?_
  apply Exists.intro
  refine ⟨fun w0 hb0 hF0 => ?_, ?_⟩
  · have k0 : ∀ (e : Ext w0) (o : Nat), e.at_.cell? ⟨ph, o, none⟩ = (stCells s ++ R).toArray[o]? := fun e o => ((kP.below hb0).below e.same).cell o
    obtain ⟨g0, g1, g2, g3, g4, g5, g6, g7⟩ := stCells_get s R
    have c0 := fun e => (k0 e 0).trans g0
    have c1 := fun e => (k0 e 1).trans g1
    have c2 := fun e => (k0 e 2).trans g2
    have c3 := fun e => (k0 e 3).trans g3
    have c4 := fun e => (k0 e 4).trans g4
    have c5 := fun e => (k0 e 5).trans g5
    have c6 := fun e => (k0 e 6).trans g6
    have c7 := fun e => (k0 e 7).trans g7
    clear k0
    simp only [pick, List.getElem?_toArray, List.getElem?_cons_succ, List.getElem?_cons_zero, Option.toList_some, List.cons_append, List.nil_append]
    repeat (go_big_quiet_step (fail))
    exact wpQuiet_nil rfl
  refine AlChk.nil ?_
  refine Walk.fin fun w3 h3 _ _ => ?_
  simp only [List.drop_succ_cons, List.drop_zero]
  have kP3 := kP.below h3
  have kW3 := kW.below h3
  have tab3 := tab2.below h3
  have but3 := but.ext h3
  have hlt3 : ph < w3.heap.size := kP3.lt
  clear kP kW tab2 but h3 Hk HW
  go_wp2_with fail
  go_loopw [5, 6, 7, 8, 9, 10, 11, 12, 51] (fun va vb vc vd ve vf vg vh i wr => ∃ k : Nat, k ≤ 64 ∧ i = .int .i64 k ∧ va = .int .u32 (Sha.rounds (Sha.sched (natB bl) 64) s k).a ∧ vb = .int .u32 (Sha.rounds (Sha.sched (natB bl) 64) s k).b ∧ vc = .int .u32 (Sha.rounds (Sha.sched (natB bl) 64) s k).c ∧ vd = .int .u32 (Sha.rounds (Sha.sched (natB bl) 64) s k).d ∧ ve = .int .u32 (Sha.rounds (Sha.sched (natB bl) 64) s k).e ∧ vf = .int .u32 (Sha.rounds (Sha.sched (natB bl) 64) s k).f ∧ vg = .int .u32 (Sha.rounds (Sha.sched (natB bl) 64) s k).g ∧ vh = .int .u32 (Sha.rounds (Sha.sched (natB bl) 64) s k).h ∧ Blk wr pb (wordCells 64 (Sha.sched (natB bl) 64)) 127 ∧ Blk wr ph (stCells s ++ R).toArray T ∧ ShaTab wr ∧ But ph w wr) (fun _ _ _ _ _ _ _ _ i _ => 64 - (intOf i).toNat)
  case atStart => exact ⟨0, by omega, rfl, rfl, rfl, rfl, rfl, rfl, rfl, rfl, rfl, kW3, kP3, tab3, but3⟩
  case round =>
    clear kW3 kP3 tab3 but3
    obtain ⟨k, hk, rfl, rfl, rfl, rfl, rfl, rfl, rfl, rfl, rfl, kW, kP, tab, but⟩ := hrel
    have ok := hs.rounds (Sha.sched (natB bl) 64) k
    by_cases hlt : k < 64
    · have hl := sched_length (natB bl) 64
      have qW := wordCells_get 64 (Sha.sched (natB bl) 64) k (by omega)
      rw [← kW.cell] at qW
      have qK := tab.keys k hlt
      have lK := keys_lt k
      have hbw := sched_lt (natB bl) (fun j => (natB_getD bl HT.out.small j).2) 64 k
      have HR : Hid (Sha.rounds (Sha.sched (natB bl) 64) s (k + 1) = Sha.round (Sha.keys.getD k 0) ((Sha.sched (natB bl) 64).getD k 0) (Sha.rounds (Sha.sched (natB bl) 64) s k)) := hid rfl
      generalize Sha.keys.getD k 0 = K at *
      generalize (Sha.sched (natB bl) 64).getD k 0 = W at *
      generalize Sha.rounds (Sha.sched (natB bl) 64) s k = r at *
      obtain ⟨xa, xb, xc, xd, xe, xf, xg, xh⟩ := r
      obtain ⟨oa, ob, oc, od, oe, of, og, oh⟩ := ok
      simp only [] at oa ob oc od oe of og oh ⊢
      have HO := hid (And.intro oa (And.intro ob (And.intro oc (And.intro od (And.intro oe (And.intro of (And.intro og oh)))))))
      clear oa ob oc od oe of og oh hl hbw lK
      have Hbut := hid but
      have HkP := hid kP
      clear but kP
      go_wp2_with fail
      refine wp_region_flow 6 [0, 1, 2, 3, 4, 5] [] [] (by kernel_rfl) (by kernel_rfl) ?_
      apply Exists.intro
      refine ⟨fun w0 hb0 hF0 => ?_, ?_⟩
      · have c0 : ∀ e : Ext w0, e.at_.cell? ⟨pb, k, none⟩ = some (.int .u32 W) := fun e => by rw [((kW.below hb0).below e.same).cell, ← kW.cell]; exact qW
        simp only [pick, List.getElem?_toArray, List.getElem?_cons_succ, List.getElem?_cons_zero, Option.toList_some, List.cons_append, List.nil_append]
        repeat (go_big_quiet_step (fail))
        exact wpQuiet_nil rfl
      refine AlChk.nil ?_
      refine Walk.fin fun w3 h3 _ _ => ?_
      simp only [List.drop_succ_cons, List.drop_zero]
      have qK3 : w3.cell? ⟨1, k, none⟩ = some (.int .u32 (K : Nat)) := (h3.cell (p := ⟨_, k, none⟩) tab.lt).trans qK
      have hlt3 : 1 < w3.heap.size := Nat.lt_of_lt_of_le tab.lt h3.size
      have oe := HO.out.2.2.2.2.1
      go_wp2_with fail
      refine wp_region_flow 25 [0, 1, 2, 3, 4, 5, 6, 7, 8, 9, 10, 11, 12, 13, 14, 15, 16, 17, 18, 19, 20, 21, 22, 23, 24] [] [] (by kernel_rfl) (by kernel_rfl) ?_
      apply Exists.intro
      refine ⟨fun w0 hb0 hF0 => ?_, ?_⟩
      · have c0 : ∀ e : Ext w0, e.at_.cell? ⟨1, k, none⟩ = some (.int .u32 (K : Nat)) := fun e => ((Below.on hb0 e.same).cell (p := ⟨_, k, none⟩) hlt3).trans qK3
        have b1 := bits_S1 oe
        have b3 := bits_ch oe HO.out.2.2.2.2.2.1 HO.out.2.2.2.2.2.2.1
        simp only [pick, List.getElem?_toArray, List.getElem?_cons_succ, List.getElem?_cons_zero, Option.toList_some, List.cons_append, List.nil_append]
        repeat (go_big_quiet_step (first | (go_at_call 88; exact rot_q _ 6 _ oe (by decide) (by decide) (by decide)) | (go_at_call 88; exact rot_q _ 11 _ oe (by decide) (by decide) (by decide)) | (go_at_call 88; exact rot_q _ 25 _ oe (by decide) (by decide) (by decide))))
        exact wpQuiet_nil rfl
      refine AlChk.nil ?_
      refine Walk.fin fun w4 h4 _ _ => ?_
      simp only [List.drop_succ_cons, List.drop_zero]
      have kW4 := (kW.below h3).below h4
      have kP4 := (HkP.out.below h3).below h4
      have tab4 := (tab.below h3).below h4
      have but4 := (Hbut.out.ext h3).ext h4
      have Hw := hid (And.intro kW4 (And.intro kP4 (And.intro tab4 but4)))
      clear kW4 kP4 tab4 but4 h3 h4 qK3 hlt3 qK qW kW tab Hbut HkP
      have oa := HO.out.1
      go_wp2_with fail
      have b2 := bits_S0 oa
      have b4 := bits_maj oa HO.out.2.1 HO.out.2.2.1
      go_wp2_with (first | (go_at_call 88; refine (rot_int _ 2 _ _ oa (by decide) (by decide) (by decide)).mono ?_; rintro e w5 ⟨rfl, rfl⟩) | (go_at_call 88; refine (rot_int _ 13 _ _ oa (by decide) (by decide) (by decide)).mono ?_; rintro e w5 ⟨rfl, rfl⟩) | (go_at_call 88; refine (rot_int _ 22 _ _ oa (by decide) (by decide) (by decide)).mono ?_; rintro e w5 ⟨rfl, rfl⟩))
      obtain ⟨kW4, kP4, tab4, but4⟩ := Hw.out
      refine ⟨⟨k + 1, by omega, by go_num, ?_, ?_, ?_, ?_, ?_, ?_, ?_, ?_, kW4, kP4, tab4, but4⟩, by simp [intOf]; omega⟩
      · rw [HR.out]; exact congrArg (Value.int .u32) (by simp only [Sha.round, Sha.t1, Sha.t2, Sha.M]; omega)
      · rw [HR.out]; rfl
      · rw [HR.out]; rfl
      · rw [HR.out]; rfl
      · rw [HR.out]; exact congrArg (Value.int .u32) (by simp only [Sha.round, Sha.t1, Sha.t2, Sha.M]; omega)
      · rw [HR.out]; rfl
      · rw [HR.out]; rfl
      · rw [HR.out]; rfl
    · have h64 : k = 64 := by omega
      have HF : Hid (Sha.compress s (natB bl) = Sha.add s (Sha.rounds (Sha.sched (natB bl) 64) s k)) := hid (by rw [h64]; rfl)
      have H64 := hid h64
      generalize Sha.rounds (Sha.sched (natB bl) 64) s k = r at *
      clear h64 kW tab HT Hne hmx ok hs
      have HkP := hid kP
      have Hbut := hid but
      clear kP but
      go_wp2_with fail
      have but := Hbut.out
      obtain ⟨ra, rb, rc, rd, re, rf, rg, rh⟩ := r
      obtain ⟨sa, sb, sc, sd, se, sf, sg, sh⟩ := s
      have kP : Blk wr ph (Value.int .u32 sa :: .int .u32 sb :: .int .u32 sc :: .int .u32 sd :: .int .u32 se :: .int .u32 sf :: .int .u32 sg :: .int .u32 sh :: R).toArray T := HkP.out
      clear HkP Hbut H64 hlt hk Hpb
      refine wp_region_flow 8 [0, 1, 2, 3, 4, 5, 6, 7] [] [] (by kernel_rfl) (by kernel_rfl) ?_
      apply Exists.intro
      refine ⟨fun w0 hb0 hF0 => ?_, ?_⟩
      · have c0 : ∀ e : Ext w0, e.at_.cell? ⟨ph, 0, none⟩ = some (.int .u32 sa) := fun e => (((kP.below hb0).below e.same).cell 0).trans rfl
        simp only [pick, List.getElem?_toArray, List.getElem?_cons_succ, List.getElem?_cons_zero, Option.toList_some, List.cons_append, List.nil_append]
        repeat (go_big_quiet_step (fail))
        exact wpQuiet_nil rfl
      refine AlChk.nil ?_
      refine Walk.fin fun w3 h3 _ _ => ?_
      simp only [List.drop_succ_cons, List.drop_zero]
      have kP3 := kP.below h3
      have but3 := but.ext h3
      have q : w3.cell? ⟨ph, 0, none⟩ = some (.int .u32 sa) := (kP3.cell 0).trans rfl
      have f1 := kP3.free
      clear kP but h3
      have HkP := hid kP3
      clear kP3
      go_wp2_with fail
      have kP := HkP.out.set 0 (.int .u32 (((sa : Int) + (ra : Int)) % 4294967296))
      have but := but3.set (p := ⟨ph, 0, none⟩) (.inl rfl) (.int .u32 (((sa : Int) + (ra : Int)) % 4294967296))
      simp only [List.setIfInBounds_toArray, List.set_cons_zero] at kP
      generalize hv : w3.setCell ⟨ph, 0, none⟩ (.int .u32 (((sa : Int) + (ra : Int)) % 4294967296)) = v1 at *
      clear hv but3 q f1 HkP
      refine wp_region_flow 8 [0, 1, 2, 3, 4, 5, 6, 7] [] [] (by kernel_rfl) (by kernel_rfl) ?_
      apply Exists.intro
      refine ⟨fun w0 hb0 hF0 => ?_, ?_⟩
      · have c0 : ∀ e : Ext w0, e.at_.cell? ⟨ph, 1, none⟩ = some (.int .u32 sb) := fun e => (((kP.below hb0).below e.same).cell 1).trans rfl
        simp only [pick, List.getElem?_toArray, List.getElem?_cons_succ, List.getElem?_cons_zero, Option.toList_some, List.cons_append, List.nil_append]
        repeat (go_big_quiet_step (fail))
        exact wpQuiet_nil rfl
      refine AlChk.nil ?_
      refine Walk.fin fun w3 h3 _ _ => ?_
      simp only [List.drop_succ_cons, List.drop_zero]
      have kP3 := kP.below h3
      have but3 := but.ext h3
      have q : w3.cell? ⟨ph, 1, none⟩ = some (.int .u32 sb) := (kP3.cell 1).trans rfl
      have f1 := kP3.free
      clear kP but h3
      have HkP := hid kP3
      clear kP3
      go_wp2_with fail
      have kP := HkP.out.set 1 (.int .u32 (((sb : Int) + (rb : Int)) % 4294967296))
      have but := but3.set (p := ⟨ph, 1, none⟩) (.inl rfl) (.int .u32 (((sb : Int) + (rb : Int)) % 4294967296))
      simp only [List.setIfInBounds_toArray, List.set_cons_zero, List.set_cons_succ] at kP
      generalize hv : w3.setCell ⟨ph, 1, none⟩ (.int .u32 (((sb : Int) + (rb : Int)) % 4294967296)) = v2 at *
      clear hv but3 q f1 HkP
      refine wp_region_flow 8 [0, 1, 2, 3, 4, 5, 6, 7] [] [] (by kernel_rfl) (by kernel_rfl) ?_
      apply Exists.intro
      refine ⟨fun w0 hb0 hF0 => ?_, ?_⟩
      · have c0 : ∀ e : Ext w0, e.at_.cell? ⟨ph, 2, none⟩ = some (.int .u32 sc) := fun e => (((kP.below hb0).below e.same).cell 2).trans rfl
        simp only [pick, List.getElem?_toArray, List.getElem?_cons_succ, List.getElem?_cons_zero, Option.toList_some, List.cons_append, List.nil_append]
        repeat (go_big_quiet_step (fail))
        exact wpQuiet_nil rfl
      refine AlChk.nil ?_
      refine Walk.fin fun w3 h3 _ _ => ?_
      simp only [List.drop_succ_cons, List.drop_zero]
      have kP3 := kP.below h3
      have but3 := but.ext h3
      have q : w3.cell? ⟨ph, 2, none⟩ = some (.int .u32 sc) := (kP3.cell 2).trans rfl
      have f1 := kP3.free
      clear kP but h3
      have HkP := hid kP3
      clear kP3
      go_wp2_with fail
      have kP := HkP.out.set 2 (.int .u32 (((sc : Int) + (rc : Int)) % 4294967296))
      have but := but3.set (p := ⟨ph, 2, none⟩) (.inl rfl) (.int .u32 (((sc : Int) + (rc : Int)) % 4294967296))
      simp only [List.setIfInBounds_toArray, List.set_cons_zero, List.set_cons_succ] at kP
      generalize hv : w3.setCell ⟨ph, 2, none⟩ (.int .u32 (((sc : Int) + (rc : Int)) % 4294967296)) = v3 at *
      clear hv but3 q f1 HkP
      refine wp_region_flow 8 [0, 1, 2, 3, 4, 5, 6, 7] [] [] (by kernel_rfl) (by kernel_rfl) ?_
      apply Exists.intro
      refine ⟨fun w0 hb0 hF0 => ?_, ?_⟩
      · have c0 : ∀ e : Ext w0, e.at_.cell? ⟨ph, 3, none⟩ = some (.int .u32 sd) := fun e => (((kP.below hb0).below e.same).cell 3).trans rfl
        simp only [pick, List.getElem?_toArray, List.getElem?_cons_succ, List.getElem?_cons_zero, Option.toList_some, List.cons_append, List.nil_append]
        repeat (go_big_quiet_step (fail))
        exact wpQuiet_nil rfl
      refine AlChk.nil ?_
      refine Walk.fin fun w3 h3 _ _ => ?_
      simp only [List.drop_succ_cons, List.drop_zero]
      have kP3 := kP.below h3
      have but3 := but.ext h3
      have q : w3.cell? ⟨ph, 3, none⟩ = some (.int .u32 sd) := (kP3.cell 3).trans rfl
      have f1 := kP3.free
      clear kP but h3
      have HkP := hid kP3
      clear kP3
      go_wp2_with fail
      have kP := HkP.out.set 3 (.int .u32 (((sd : Int) + (rd : Int)) % 4294967296))
      have but := but3.set (p := ⟨ph, 3, none⟩) (.inl rfl) (.int .u32 (((sd : Int) + (rd : Int)) % 4294967296))
      simp only [List.setIfInBounds_toArray, List.set_cons_zero, List.set_cons_succ] at kP
      generalize hv : w3.setCell ⟨ph, 3, none⟩ (.int .u32 (((sd : Int) + (rd : Int)) % 4294967296)) = v4 at *
      clear hv but3 q f1 HkP
      refine wp_region_flow 8 [0, 1, 2, 3, 4, 5, 6, 7] [] [] (by kernel_rfl) (by kernel_rfl) ?_
      apply Exists.intro
      refine ⟨fun w0 hb0 hF0 => ?_, ?_⟩
      · have c0 : ∀ e : Ext w0, e.at_.cell? ⟨ph, 4, none⟩ = some (.int .u32 se) := fun e => (((kP.below hb0).below e.same).cell 4).trans rfl
        simp only [pick, List.getElem?_toArray, List.getElem?_cons_succ, List.getElem?_cons_zero, Option.toList_some, List.cons_append, List.nil_append]
        repeat (go_big_quiet_step (fail))
        exact wpQuiet_nil rfl
      refine AlChk.nil ?_
      refine Walk.fin fun w3 h3 _ _ => ?_
      simp only [List.drop_succ_cons, List.drop_zero]
      have kP3 := kP.below h3
      have but3 := but.ext h3
      have q : w3.cell? ⟨ph, 4, none⟩ = some (.int .u32 se) := (kP3.cell 4).trans rfl
      have f1 := kP3.free
      clear kP but h3
      have HkP := hid kP3
      clear kP3
      go_wp2_with fail
      have kP := HkP.out.set 4 (.int .u32 (((se : Int) + (re : Int)) % 4294967296))
      have but := but3.set (p := ⟨ph, 4, none⟩) (.inl rfl) (.int .u32 (((se : Int) + (re : Int)) % 4294967296))
      simp only [List.setIfInBounds_toArray, List.set_cons_zero, List.set_cons_succ] at kP
      generalize hv : w3.setCell ⟨ph, 4, none⟩ (.int .u32 (((se : Int) + (re : Int)) % 4294967296)) = v5 at *
      clear hv but3 q f1 HkP
      refine wp_region_flow 8 [0, 1, 2, 3, 4, 5, 6, 7] [] [] (by kernel_rfl) (by kernel_rfl) ?_
      apply Exists.intro
      refine ⟨fun w0 hb0 hF0 => ?_, ?_⟩
      · have c0 : ∀ e : Ext w0, e.at_.cell? ⟨ph, 5, none⟩ = some (.int .u32 sf) := fun e => (((kP.below hb0).below e.same).cell 5).trans rfl
        simp only [pick, List.getElem?_toArray, List.getElem?_cons_succ, List.getElem?_cons_zero, Option.toList_some, List.cons_append, List.nil_append]
        repeat (go_big_quiet_step (fail))
        exact wpQuiet_nil rfl
      refine AlChk.nil ?_
      refine Walk.fin fun w3 h3 _ _ => ?_
      simp only [List.drop_succ_cons, List.drop_zero]
      have kP3 := kP.below h3
      have but3 := but.ext h3
      have q : w3.cell? ⟨ph, 5, none⟩ = some (.int .u32 sf) := (kP3.cell 5).trans rfl
      have f1 := kP3.free
      clear kP but h3
      have HkP := hid kP3
      clear kP3
      go_wp2_with fail
      have kP := HkP.out.set 5 (.int .u32 (((sf : Int) + (rf : Int)) % 4294967296))
      have but := but3.set (p := ⟨ph, 5, none⟩) (.inl rfl) (.int .u32 (((sf : Int) + (rf : Int)) % 4294967296))
      simp only [List.setIfInBounds_toArray, List.set_cons_zero, List.set_cons_succ] at kP
      generalize hv : w3.setCell ⟨ph, 5, none⟩ (.int .u32 (((sf : Int) + (rf : Int)) % 4294967296)) = v6 at *
      clear hv but3 q f1 HkP
      refine wp_region_flow 8 [0, 1, 2, 3, 4, 5, 6, 7] [] [] (by kernel_rfl) (by kernel_rfl) ?_
      apply Exists.intro
      refine ⟨fun w0 hb0 hF0 => ?_, ?_⟩
      · have c0 : ∀ e : Ext w0, e.at_.cell? ⟨ph, 6, none⟩ = some (.int .u32 sg) := fun e => (((kP.below hb0).below e.same).cell 6).trans rfl
        simp only [pick, List.getElem?_toArray, List.getElem?_cons_succ, List.getElem?_cons_zero, Option.toList_some, List.cons_append, List.nil_append]
        repeat (go_big_quiet_step (fail))
        exact wpQuiet_nil rfl
      refine AlChk.nil ?_
      refine Walk.fin fun w3 h3 _ _ => ?_
      simp only [List.drop_succ_cons, List.drop_zero]
      have kP3 := kP.below h3
      have but3 := but.ext h3
      have q : w3.cell? ⟨ph, 6, none⟩ = some (.int .u32 sg) := (kP3.cell 6).trans rfl
      have f1 := kP3.free
      clear kP but h3
      have HkP := hid kP3
      clear kP3
      go_wp2_with fail
      have kP := HkP.out.set 6 (.int .u32 (((sg : Int) + (rg : Int)) % 4294967296))
      have but := but3.set (p := ⟨ph, 6, none⟩) (.inl rfl) (.int .u32 (((sg : Int) + (rg : Int)) % 4294967296))
      simp only [List.setIfInBounds_toArray, List.set_cons_zero, List.set_cons_succ] at kP
      generalize hv : w3.setCell ⟨ph, 6, none⟩ (.int .u32 (((sg : Int) + (rg : Int)) % 4294967296)) = v7 at *
      clear hv but3 q f1 HkP
      refine wp_region_flow 8 [0, 1, 2, 3, 4, 5, 6, 7] [] [] (by kernel_rfl) (by kernel_rfl) ?_
      apply Exists.intro
      refine ⟨fun w0 hb0 hF0 => ?_, ?_⟩
      · have c0 : ∀ e : Ext w0, e.at_.cell? ⟨ph, 7, none⟩ = some (.int .u32 sh) := fun e => (((kP.below hb0).below e.same).cell 7).trans rfl
        simp only [pick, List.getElem?_toArray, List.getElem?_cons_succ, List.getElem?_cons_zero, Option.toList_some, List.cons_append, List.nil_append]
        repeat (go_big_quiet_step (fail))
        exact wpQuiet_nil rfl
      refine AlChk.nil ?_
      refine Walk.fin fun w3 h3 _ _ => ?_
      simp only [List.drop_succ_cons, List.drop_zero]
      have kP3 := kP.below h3
      have but3 := but.ext h3
      have q : w3.cell? ⟨ph, 7, none⟩ = some (.int .u32 sh) := (kP3.cell 7).trans rfl
      have f1 := kP3.free
      clear kP but h3
      have HkP := hid kP3
      clear kP3
      go_wp2_with fail
      have kP := HkP.out.set 7 (.int .u32 (((sh : Int) + (rh : Int)) % 4294967296))
      have but := but3.set (p := ⟨ph, 7, none⟩) (.inl rfl) (.int .u32 (((sh : Int) + (rh : Int)) % 4294967296))
      simp only [List.setIfInBounds_toArray, List.set_cons_zero, List.set_cons_succ] at kP
      go_returns
      refine ⟨rfl, but, ?_⟩
      rw [HF.out]
      have em : ∀ x y : Nat, (((x + y) % 4294967296 : Nat) : Int) = ((x : Int) + y) % 4294967296 := fun x y => by omega
      have : stCells (Sha.add ⟨sa, sb, sc, sd, se, sf, sg, sh⟩ ⟨ra, rb, rc, rd, re, rf, rg, rh⟩) ++ R = Value.int .u32 (((sa : Int) + (ra : Int)) % 4294967296) :: Value.int .u32 (((sb : Int) + (rb : Int)) % 4294967296) :: Value.int .u32 (((sc : Int) + (rc : Int)) % 4294967296) :: Value.int .u32 (((sd : Int) + (rd : Int)) % 4294967296) :: Value.int .u32 (((se : Int) + (re : Int)) % 4294967296) :: Value.int .u32 (((sf : Int) + (rf : Int)) % 4294967296) :: Value.int .u32 (((sg : Int) + (rg : Int)) % 4294967296) :: Value.int .u32 (((sh : Int) + (rh : Int)) % 4294967296) :: R := by
        simp only [stCells, Sha.add, em, List.cons_append, List.nil_append]
      rw [this]
      exact kP
end Go.Proofs.YtkakoiaahgchmaaDoor
namespace Go.Proofs.YtkakoiaahgchmaaDoor
set_option maxRecDepth 100000
open Go.ChangeShapes Go.WideShapes Go.ChangeAt Go.RowKit
/-- Cells that are written into the middle of a block. -/
theorem Blk.setCells {w : World} {b : Nat} {T : TypeId} (A L B : List Value) (o : Nat) (cs : List Value) (h : Blk w b (A ++ (L ++ B)).toArray T) (hl : o + cs.length ≤ L.length) :
    Blk (w.setCells b (A.length + o) cs) b (A ++ (splice L o cs ++ B)).toArray T := by
  rw [setCells_is]
  obtain ⟨cs', h1, h2, h3, h4, h5⟩ := Blk.setAll_at cs (A.length + o) w _ h (by simp; omega)
  have : cs' = (A ++ (splice L o cs ++ B)).toArray := by
    apply Array.ext_getElem?
    intro j
    rcases Nat.lt_or_ge j (A.length + o) with hj | hj
    · rw [h3 j hj]
      simp only [List.getElem?_toArray]
      rcases Nat.lt_or_ge j A.length with hja | hja
      · rw [List.getElem?_append_left hja, List.getElem?_append_left hja]
      · rw [List.getElem?_append_right hja, List.getElem?_append_right hja, List.getElem?_append_left (by omega), List.getElem?_append_left (by rw [length_splice _ _ _ hl]; omega)]
        unfold splice
        rw [List.getElem?_append_left (by simp; omega), List.getElem?_take_of_lt (by omega)]
    · rcases Nat.lt_or_ge j (A.length + o + cs.length) with hj2 | hj2
      · have := h5 (j - (A.length + o)) (by omega)
        rw [show A.length + o + (j - (A.length + o)) = j by omega] at this
        rw [this, List.getElem?_toArray, List.getElem?_append_right (by omega), List.getElem?_append_left (by rw [length_splice _ _ _ hl]; omega)]
        unfold splice
        rw [List.getElem?_append_right (by simp; omega), List.getElem?_append_left (by simp; omega)]
        congr 1
        simp; omega
      · rw [h4 j hj2, List.getElem?_toArray, List.getElem?_toArray, List.getElem?_append_right (show A.length ≤ j by omega), List.getElem?_append_right (show A.length ≤ j by omega)]
        rcases Nat.lt_or_ge (j - A.length) L.length with hj3 | hj3
        · rw [List.getElem?_append_left hj3, List.getElem?_append_left (by rw [length_splice _ _ _ hl]; omega)]
          unfold splice
          rw [List.getElem?_append_right (by simp; omega), List.getElem?_append_right (by simp; omega), List.getElem?_drop]
          congr 1
          simp; omega
        · rw [List.getElem?_append_right hj3, List.getElem?_append_right (by rw [length_splice _ _ _ hl]; omega), length_splice _ _ _ hl]
  rw [← this]; exact h1
section
variable {P : Program}
/-- copy, a text into a part of a block -/
theorem run_copy_text (w : World) (dT sT ty elem : TypeId) (hu : P.underlying dT = some (.slice elem)) (hs : (P.info? elem).map (·.size) = some 1) {b : Nat} {cs : Array Value} {T : TypeId} (hk : Blk w b cs T) (off dLen dCap : Nat) {a : Option Addr} {len cap : Nat} {t : List Int} (hT : TextAt w a len cap t)
    (hfit : off + dLen ≤ cs.size) : (Builtin.copy_ #[dT, sT] ty #[.slice (some ⟨b, off, none⟩) dLen dCap, .slice a len cap]).run P w = .ok (.int .i64 (Nat.min len dLen : Nat)) (w.setCells b off ((t.take (Nat.min len dLen)).map (Value.int .u8))) := by
  rcases Nat.eq_zero_or_pos (Nat.min len dLen) with h0 | h0
  · rw [run_copy_none w dT sT ty elem _ a dLen dCap len cap hu hs h0, h0]
    simp [World.setCells, goInt]
  · have hle : Nat.min len dLen ≤ len := Nat.min_le_left _ _
    have hle2 : Nat.min len dLen ≤ dLen := Nat.min_le_right _ _
    obtain ⟨x, o, rfl, hx, hc⟩ := hT.at_ (by omega)
    have hl : ((t.take (Nat.min len dLen)).map (Value.int .u8)).length = Nat.min len dLen := by rw [List.length_map, List.length_take, hT.length]; omega
    have := run_copy_cells (P := P) w dT sT ty elem b off dLen dCap ⟨x, o, none⟩ len cap ((t.take (Nat.min len dLen)).map (Value.int .u8)) hu hs hl (fun j v hv => by
      have hj : j < Nat.min len dLen := by
        have := (List.getElem?_eq_some_iff.1 hv).1
        omega
      rw [Addr.add_mid, hc j (by omega)]
      rw [List.getElem?_map, List.getElem?_take_of_lt hj, List.getElem?_eq_getElem (by rw [hT.length]; omega)] at hv
      rw [List.getD_eq_getElem?_getD, List.getElem?_eq_getElem (by rw [hT.length]; omega)]
      exact hv) (fun j hj => by rw [hk.cell, Array.getElem?_eq_getElem (by omega)]; rfl) (fun j _ => hk.free _) (fun v hv => by
      obtain ⟨y, _, rfl⟩ := List.mem_map.1 hv
      rfl)
    rw [this, hl]
    rfl
/-- clear, of a part of a block of bytes -/
theorem run_clear_blk (w : World) (t e ty : TypeId) (ht : P.underlying t = some (.slice e)) (hv : ∀ w, (zeroValue e).run P w = .ok (.int .u8 0) w) {b : Nat} {cs : Array Value} {T : TypeId} (hk : Blk w b cs T) (off n c : Nat) (d : Option Addr) (hd : 0 < n → d = some ⟨b, off, none⟩) (hfit : off + n ≤ cs.size) :
    (Builtin.clear_ #[t] ty #[.slice d n c]).run P w = .ok (.tuple #[]) (w.setCells b off (List.replicate n (.int .u8 0))) := by
  rcases Nat.eq_zero_or_pos n with rfl | h0
  · cases d <;> simp [Builtin.clear_, run_underlying ht, World.setCells]
  · obtain rfl := hd h0
    exact Lib.run_clear_slice w t e ty (.int .u8 0) ht hv rfl rfl b off n c h0 (fun j hj => by rw [hk.cell, Array.getElem?_eq_getElem (by omega)]; rfl) (fun j _ => hk.free _)
end
/-- .. as operations of a walk -/
theorem wpList_copy_text {P : Program} {ops : Array Oper} {rest : List Oper} {op : Oper} {act : Act} {w : World} {Q : Exit → Act → World → Prop} (hgd : op.guard = none) (d s : Operand) (dT sT : TypeId)
    (ho : op.op = .call { callee := .builtin .copy, args := #[d, s], argTypes := #[dT, sT] }) (elem : TypeId) (hu : P.underlying dT = some (.slice elem)) (hs : (P.info? elem).map (·.size) = some 1)
    (b off dLen dCap : Nat) (hd : act.eval d = .slice (some ⟨b, off, none⟩) dLen dCap) (a : Option Addr) (len cap : Nat) (hse : act.eval s = .slice a len cap) (cs : Array Value) (T : TypeId) (hk : Blk w b cs T) (t : List Int) (hT : TextAt w a len cap t) (hfit : off + dLen ≤ cs.size) (n : Nat) (hn : n = Nat.min len dLen)
    (h : wpList P ops Q rest (act.put op.dst (.int .i64 (n : Nat))) (w.setCells b off ((t.take n).map (Value.int .u8)))) : wpList P ops Q (op :: rest) act w := by
  subst hn
  refine wpList_plain hgd fun K hK => ?_
  have hrun := run_copy_text (P := P) w dT sT op.type elem hu hs hk off dLen dCap hT hfit
  unfold Oper.wp execOp
  simp only [ho, resolve, invoke, builtin, Sem.run_bind, Sem.run_pure, Result.andThen_ok, List.map_toArray, List.map_cons, List.map_nil, hd, hse, hrun]
  exact hK _ _ h
theorem wpList_clear_blk {P : Program} {ops : Array Oper} {rest : List Oper} {op : Oper} {act : Act} {w : World} {Q : Exit → Act → World → Prop} (hgd : op.guard = none) (s : Operand) (t : TypeId)
    (ho : op.op = .call { callee := .builtin .clear, args := #[s], argTypes := #[t] }) (e : TypeId) (ht : P.underlying t = some (.slice e)) (hv : ∀ w, (zeroValue e).run P w = .ok (.int .u8 0) w)
    (b off n c : Nat) (d : Option Addr) (hse : act.eval s = .slice d n c) (hd : 0 < n → d = some ⟨b, off, none⟩) (cs : Array Value) (T : TypeId) (hk : Blk w b cs T) (hfit : off + n ≤ cs.size)
    (h : wpList P ops Q rest (act.put op.dst (.tuple #[])) (w.setCells b off (List.replicate n (.int .u8 0)))) : wpList P ops Q (op :: rest) act w := by
  refine wpList_plain hgd fun K hK => ?_
  have hrun := run_clear_blk (P := P) w t e op.type ht hv hk off n c d hd hfit
  unfold Oper.wp execOp
  simp only [ho, resolve, invoke, builtin, Sem.run_bind, Sem.run_pure, Result.andThen_ok, List.map_toArray, List.map_cons, List.map_nil, hse, hrun]
  exact hK _ _ h
/-- the cells of a hash -/
def hashCells (st : Sha.St) (R : List Int) (n : Nat) : List Value := stCells st ++ (R.map (Value.int .u8) ++ [.int .u64 n])
theorem hashCells_size (st : Sha.St) (R : List Int) (n : Nat) (hR : R.length = 64) : (hashCells st R n).toArray.size = 73 := by simp [hashCells, stCells, hR]
theorem hashCells_len (st : Sha.St) (R : List Int) (n : Nat) (hR : R.length = 64) : (hashCells st R n).toArray[72]? = some (.int .u64 n) := by
  simp [hashCells, stCells, hR]
theorem hashCells_set (st : Sha.St) (R : List Int) (n m : Nat) (hR : R.length = 64) : (hashCells st R n).toArray.setIfInBounds 72 (.int .u64 m) = (hashCells st R m).toArray := by
  simp [hashCells, stCells, hR]
theorem hashCells_rest (st : Sha.St) (R : List Int) (n j : Nat) (hR : R.length = 64) (hj : j < 64) : (hashCells st R n).toArray[8 + j]? = some (.int .u8 (R.getD j 0)) := by
  simp only [hashCells, stCells, List.getElem?_toArray]
  rw [List.getElem?_append_right (by simp)]
  simp only [List.length_cons, List.length_nil, show 8 + j - (0 + 1 + 1 + 1 + 1 + 1 + 1 + 1 + 1) = j by omega]
  rw [List.getElem?_append_left (by simp; omega), List.getElem?_map, List.getElem?_eq_getElem (by omega), List.getD_eq_getElem?_getD, List.getElem?_eq_getElem (by omega)]
  rfl
theorem Blk.hash_put {w : World} {ph : Nat} {T : TypeId} {st : Sha.St} {R : List Int} {n : Nat} (h : Blk w ph (hashCells st R n).toArray T) (hR : R.length = 64) (o : Nat) (cs : List Int) (ho : o + cs.length ≤ 64) :
    Blk (w.setCells ph (8 + o) (cs.map (Value.int .u8))) ph (hashCells st (splice R o cs) n).toArray T := by
  have := Blk.setCells (stCells st) (R.map (Value.int .u8)) [.int .u64 n] o (cs.map (Value.int .u8)) h (by simp; omega)
  have e : splice (R.map (Value.int .u8)) o (cs.map (Value.int .u8)) = (splice R o cs).map (Value.int .u8) := by simp [splice]
  rw [e] at this
  exact this
theorem Blk.hash_rest {w : World} {ph : Nat} {T : TypeId} {st : Sha.St} {R : List Int} {n : Nat} (h : Blk w ph (hashCells st R n).toArray T) (hR : R.length = 64) (hs : ∀ x ∈ R, 0 ≤ x ∧ x < 256) : TextAt w (some ⟨ph, 8, none⟩) 64 64 R :=
  TextAt.of_blk h hR (Nat.le_refl _) (by omega) hs fun j hj => hashCells_rest st R n j hR hj
theorem splice_small {R cs : List Int} {o : Nat} (h : ∀ x ∈ R, 0 ≤ x ∧ x < 256) (hc : ∀ x ∈ cs, 0 ≤ x ∧ x < 256) : ∀ x ∈ splice R o cs, 0 ≤ x ∧ x < 256 := by
  intro x hx
  unfold splice at hx
  rcases List.mem_append.1 hx with hx | hx
  · exact h x (List.mem_of_mem_take hx)
  · rcases List.mem_append.1 hx with hx | hx
    · exact hc x hx
    · exact h x (List.mem_of_mem_drop hx)
theorem run_append (s : Sha.St) (bs t : List Nat) : ∀ n, 64 * n ≤ bs.length → Sha.run s (bs ++ t) n = Sha.run s bs n
  | 0, _ => rfl
  | n + 1, h => by
    rw [Sha.run, Sha.run, run_append s bs t n (by omega)]
    congr 1
    rw [List.drop_append_of_le_length (by omega), List.take_append_of_le_length (by simp; omega)]
/-- A hash that was written these bytes. -/
def HashAt (w : World) (ph : Nat) (T : TypeId) (bs : List Int) : Prop :=
  (∀ x ∈ bs, 0 ≤ x ∧ x < 256) ∧ ∃ R : List Int, R.length = 64 ∧ (∀ x ∈ R, 0 ≤ x ∧ x < 256) ∧ R.take (bs.length % 64) = bs.drop (64 * (bs.length / 64)) ∧ Blk w ph (hashCells (Sha.run Sha.start (natB bs) (bs.length / 64)) R bs.length).toArray T
theorem size_byte8 : (Tryd.prog.info? 5).map (·.size) = some 1 := by kernel_rfl
theorem TextAt.but {w w' : World} {b : Nat} {a : Option Addr} {len cap : Nat} {t : List Int} (h : TextAt w a len cap t) (hb : But b w w') (hne : 0 < len → ∀ p : Addr, a = some p → p.block ≠ b) : TextAt w' a len cap t := by
  obtain ⟨h1, h2, h3, h4, h | ⟨x, o, s, rfl, hc⟩⟩ := h
  · exact ⟨h1, h2, h3, h4, .inl h⟩
  · refine ⟨h1, h2, h3, h4, .inr ⟨x, o, s, rfl, fun j hj => ?_⟩⟩
    obtain ⟨e1, e2, e3⟩ := hc j hj
    exact ⟨e1, Nat.lt_of_lt_of_le e2 hb.size, (hb.cell e2 (hne (by omega) _ rfl)).trans e3⟩
theorem TextAt.ne {w : World} {b : Nat} {a : Option Addr} {len cap : Nat} {t : List Int} (h : TextAt w a len cap t) (hb : w.heap.size ≤ b) : 0 < len → ∀ p : Addr, a = some p → p.block ≠ b := fun h0 p hp => by
  obtain ⟨x, o, rfl, hx, _⟩ := h.at_ h0
  cases hp
  exact fun e => by simp only at e; omega
theorem cutA_ne {a : Option Addr} {l cap b : Nat} (h : ∀ p : Addr, a = some p → p.block ≠ b) : ∀ p : Addr, cutA a l cap = some p → p.block ≠ b := by
  intro p hp
  unfold cutA at hp
  split at hp
  · exact h p hp
  · cases a with
    | none => simp at hp
    | some q =>
      cases hp
      have := h _ rfl
      unfold Addr.add
      split <;> exact this
theorem TextAt.from {w : World} {a : Option Addr} {len cap : Nat} {t : List Int} (h : TextAt w a len cap t) (l : Nat) (hl : l ≤ len) : TextAt w (cutA a l cap) (len - l) (cap - l) (t.drop l) := by
  have := h.cut l len hl (Nat.le_refl _)
  rwa [List.take_of_length_le (by simp [h.length])] at this
theorem TextAt.to {w : World} {a : Option Addr} {len cap : Nat} {t : List Int} (h : TextAt w a len cap t) (l : Nat) (hl : l ≤ len) : TextAt w a l cap (t.take l) := by
  have := h.cut 0 l (Nat.zero_le _) hl
  rwa [cutA_zero, Nat.sub_zero, Nat.sub_zero, List.drop_zero] at this
theorem natB_drop_take (bs t : List Int) (k j : Nat) (h : 64 * k = bs.length + j) : ((natB (bs ++ t)).drop (64 * k)).take 64 = natB ((t.drop j).take 64) := by
  unfold natB
  rw [h, List.map_append, ← List.drop_drop, List.drop_append_of_le_length (by simp), show (bs.map Int.toNat).drop bs.length = [] from by simp, List.nil_append, List.map_take, List.map_drop]
def sliceLen : Value → Nat
  | .slice _ n _ => n
  | _ => 0
/-- The loop's state: k blocks are taken in, j bytes of the text too. -/
def AddInv (ph : Nat) (T : TypeId) (bs t : List Int) (len : Nat) (w : World) (v : Value) (wr : World) : Prop :=
  ∃ k j a cap, 64 * k = bs.length + j ∧ j ≤ len ∧ v = .slice a (len - j) cap ∧ TextAt wr a (len - j) cap (t.drop j) ∧ (0 < len - j → ∀ p : Addr, a = some p → p.block ≠ ph) ∧
    (∃ R : List Int, R.length = 64 ∧ (∀ x ∈ R, 0 ≤ x ∧ x < 256) ∧ Blk wr ph (hashCells (Sha.run Sha.start (natB (bs ++ t)) k) R (bs.length + len)).toArray T) ∧ ShaTab wr ∧ But ph w wr
set_option maxHeartbeats 8000000 in
theorem add_any (ph : Nat) (T : TypeId) (bs : List Int) (a : Option Addr) (len cap : Nat) (t : List Int) (w : World) (hH : HashAt w ph T bs) (hT : TextAt w a len cap t) (hbnd : bs.length + len < 1152921504606846976) (hne : 0 < len → ∀ p : Addr, a = some p → p.block ≠ ph) (tab : ShaTab w) (hp1 : ph ≠ 1) (hp0 : ph ≠ 0) :
    Calls Tryd.prog 79 #[.pointer (some ⟨ph, 0, none⟩), .slice a len cap] w fun e w' => e = .returned (.tuple #[]) ∧ But ph w w' ∧ HashAt w' ph T (bs ++ t) := by
  obtain ⟨hbs, R, hR, hRs, hRt, hk⟩ := hH
  have qS : w.cell? ⟨ph, 72, none⟩ = some (.int .u64 (bs.length : Nat)) := (hk.cell 72).trans (hashCells_len _ _ _ hR)
  have f1 := hk.free
  have hlt := hk.lt
  have hmx := hT.max
  have hle := hT.le
  have Hk := hid hk
  have HT := hid hT
  have Htab := hid tab
  have Hne := hid hne
  have HRt := hid hRt
  obtain ⟨m, hm⟩ : ∃ m : Nat, (bs.length : Int) % 64 = m := ⟨bs.length % 64, by omega⟩
  have hm64 : m < 64 := by omega
  have HM := hid hm
  clear hk hT tab hne hRt
  by_cases h0 : m = 0
  · subst h0
    have hk2 := (Hk.out.set 72 (.int .u64 ((bs.length + len : Nat) : Int)))
    rw [hashCells_set _ _ _ _ hR] at hk2
    have but2 := (But.of (b := ph) (Below.refl w.heap.size w)).set (p := ⟨ph, 72, none⟩) (.inl rfl) (.int .u64 ((bs.length + len : Nat) : Int))
    have hc2 : (((bs.length + len : Nat) : Int)) = (bs.length : Int) + len := by omega
    rw [hc2] at hk2 but2
    have Hk2 := hid hk2
    have Hbut2 := hid but2
    clear hk2 but2 hc2
    have hm0 : (bs.length : Int) % 64 = 0 := hm
    clear hm
    have Hinv : Hid (AddInv ph T bs t len w (.slice a len cap) (w.setCell ⟨ph, 72, none⟩ (.int .u64 ((bs.length : Int) + len)))) := hid (by
      have tabb := Htab.out.but Hbut2.out hp1 hp0
      have h64 : 64 * (bs.length / 64) = bs.length := by omega
      refine ⟨bs.length / 64, 0, a, cap, h64, Nat.zero_le _, rfl, HT.out.but Hbut2.out Hne.out, Hne.out, ⟨R, hR, hRs, ?_⟩, tabb, Hbut2.out⟩
      have e : natB (bs ++ t) = natB bs ++ natB t := by simp [natB]
      rw [e, run_append _ _ _ _ (by simp [natB]; omega)]
      exact Hk2.out)
    clear Hk2 Hbut2
    go_enter Tryd.func79, Tryd.ntmps79
    go_wp2_with fail
    try simp only [hm0]
    go_loopw [1] (AddInv ph T bs t len w) (fun v _ => sliceLen v)
    case atStart => exact Hinv.out
    case round =>
      obtain ⟨k, j, a1, cap1, hkj, hj, rfl, hT1, hne1, ⟨R1, hR1, hRs1, hk1⟩, tab1, but1⟩ := hrel
      have hle1 := hT1.le
      have hmx1 := hT1.max
      have HT1 := hid hT1
      have Htab1 := hid tab1
      have Hne1 := hid hne1
      have Hk1 := hid hk1
      have Hbut1 := hid but1
      clear hT1 tab1 hne1 hk1 but1
      by_cases hge : 64 ≤ len - j
      · have hs1 : ∀ W : World, (Instr.slice 29 (.slice a1 (len - j) cap1) none (some (.int .i64 64)) none).run Tryd.prog W = .ok (.slice a1 64 cap1) W := fun W => run_cut_h Tryd.underlying29 size_byte8 a1 (len - j) cap1 64 W (by omega) (by omega)
        have hs2 : ∀ W : World, (Instr.slice 29 (.slice a1 (len - j) cap1) (some (.int .i64 64)) none none).run Tryd.prog W = .ok (.slice (cutA a1 64 cap1) (len - j - 64) (cap1 - 64)) W := fun W => run_cut_l Tryd.underlying29 size_byte8 a1 (len - j) cap1 64 W (by omega) (by omega)
        go_wp2_with fail
        refine wp_region_flow 5 [0, 1, 2, 3, 4] [] [] (by kernel_rfl) (by kernel_rfl) ?_
        apply Exists.intro
        refine ⟨fun w0 hb0 hF0 => ?_, ?_⟩
        · simp only [pick, List.getElem?_toArray, List.getElem?_cons_succ, List.getElem?_cons_zero, Option.toList_some, List.cons_append, List.nil_append]
          repeat (go_big_quiet_step (fail))
          exact wpQuiet_nil rfl
        refine AlChk.nil ?_
        refine Walk.fin fun w3 h3 _ _ => ?_
        simp only [List.drop_succ_cons, List.drop_zero]
        go_wp2_with fail
        refine (process_any ph T _ (R1.map (Value.int .u8) ++ [.int .u64 ((bs.length + len : Nat) : Int)]) a1 cap1 ((t.drop j).take 64) w3 (Ok.run Ok.start _ _) (Hk1.out.below h3) ((HT1.out.to 64 hge).below h3) (Htab1.out.below h3) hp1).mono ?_
        rintro e w4 ⟨rfl, b4, k4⟩
        rw [← natB_drop_take bs t k j hkj] at k4
        have k4' : Blk w4 ph (hashCells (Sha.run Sha.start (natB (bs ++ t)) (k + 1)) R1 (bs.length + len)).toArray T := k4
        have Hinv2 : Hid (AddInv ph T bs t len w (.slice (cutA a1 64 cap1) (len - j - 64) (cap1 - 64)) w4) := hid (by
          refine ⟨k + 1, j + 64, cutA a1 64 cap1, cap1 - 64, by omega, by omega, ?_, ?_, fun _ => cutA_ne (Hne1.out (by omega)), ⟨R1, hR1, hRs1, k4'⟩, (Htab1.out.below h3).but b4 hp1 hp0, (Hbut1.out.ext h3).trans b4⟩
          · rw [Nat.sub_sub]
          · have := ((HT1.out.below h3).but b4 Hne1.out).from 64 hge
            rwa [Nat.sub_sub, List.drop_drop] at this)
        clear k4 k4' b4 h3
        go_wp2_with fail
        exact ⟨Hinv2.out, by simp only [sliceLen]; omega⟩
      · have Hdone : Hid (HashAt (wr.setCells ph 8 (((t.drop j).take (len - j)).map (Value.int .u8))) ph T (bs ++ t) ∧ But ph w (wr.setCells ph 8 (((t.drop j).take (len - j)).map (Value.int .u8)))) := hid (by
          have hl : (t.drop j).length = len - j := HT1.out.length
          have htl : t.length = len := HT.out.length
          have et : (t.drop j).take (len - j) = t.drop j := List.take_of_length_le (by omega)
          rw [et]
          refine ⟨⟨?_, splice R1 0 (t.drop j), ?_, splice_small hRs1 HT1.out.small, ?_, ?_⟩, But.setCells _ _ _ Hbut1.out⟩
          · intro x hx
            rcases List.mem_append.1 hx with h | h
            · exact hbs x h
            · exact HT.out.small x h
          · rw [length_splice _ _ _ (by omega)]; exact hR1
          · rw [List.length_append, show (bs.length + t.length) % 64 = len - j by omega, show 64 * ((bs.length + t.length) / 64) = bs.length + j by omega, ← List.drop_drop, List.drop_left]
            unfold splice
            rw [List.take_zero, List.nil_append, ← hl, List.take_left]
          · rw [List.length_append, show (bs.length + t.length) / 64 = k by omega, htl]
            exact Hk1.out.hash_put hR1 0 (t.drop j) (by omega))
        have hsz := hashCells_size (Sha.run Sha.start (natB (bs ++ t)) k) R1 (bs.length + len) hR1
        have Hn0 : Hid (len - j = Nat.min (len - j) 64) := hid (show len - j = min (len - j) 64 by omega)
        go_wp2_with (with_reducible refine wpList_copy_text rfl _ _ _ _ rfl 5 Tryd.underlying29 size_byte8 ph 8 64 64 rfl a1 (len - j) cap1 rfl _ T Hk1.out _ HT1.out (by omega) (len - j) Hn0.out ?_)
        go_returns
        have hd := Hdone.out
        simp only [List.map_take, List.map_drop] at hd
        exact ⟨rfl, hd.2, hd.1⟩
  · have hk2 := (Hk.out.set 72 (.int .u64 ((bs.length + len : Nat) : Int)))
    rw [hashCells_set _ _ _ _ hR] at hk2
    have but2 := (But.of (b := ph) (Below.refl w.heap.size w)).set (p := ⟨ph, 72, none⟩) (.inl rfl) (.int .u64 ((bs.length + len : Nat) : Int))
    have hc2 : (((bs.length + len : Nat) : Int)) = (bs.length : Int) + len := by omega
    rw [hc2] at hk2 but2
    have Hk2 := hid hk2
    have Hbut2 := hid but2
    have HT2 := hid (HT.out.but Hbut2.out Hne.out)
    have hsz := hashCells_size (Sha.run Sha.start (natB bs) (bs.length / 64)) R (bs.length + len) hR
    have hbl : Hid (bs.length = 64 * (bs.length / 64) + m) := hid (by omega)
    have htl : t.length = len := HT.out.length
    have hsl : ∀ W : World, (Instr.sliceAt 113 (.pointer (some ⟨ph, 8, none⟩)) (some (.int .i64 (m : Int))) none none).run Tryd.prog W = .ok (.slice (some ⟨ph, 8 + m, none⟩) (64 - m) (64 - m)) W := fun W => by
      have hal : Tryd.prog.arrayLen 113 = 64 := by kernel_rfl
      rw [run_sliceAt_array_l W 113 ⟨ph, 8, none⟩ (by kernel_rfl) .i64 (m : Int) (by omega) (by rw [hal]; omega), hal]
      have hsi : (sizeOf (Tryd.prog.elem 113)).run Tryd.prog W = .ok 1 W := by kernel_rfl
      rw [hsi, Result.andThen_ok]
      unfold slicedAt
      rw [if_neg (by omega), Int.toNat_natCast, Nat.mul_one, Addr.add_mid]
    have hsa : ∀ W : World, (Instr.sliceAt 113 (.pointer (some ⟨ph, 8, none⟩)) none none none).run Tryd.prog W = .ok (.slice (some ⟨ph, 8, none⟩) 64 64) W := fun W => by
      have hal : Tryd.prog.arrayLen 113 = 64 := by kernel_rfl
      rw [run_sliceAt_array_all W 113 ⟨ph, 8, none⟩ (by kernel_rfl), hal]
      have hsi : (sizeOf (Tryd.prog.elem 113)).run Tryd.prog W = .ok 1 W := by kernel_rfl
      rw [hsi, Result.andThen_ok]
      rfl
    have hmpos : 0 < m := by omega
    clear hk2 but2 hc2
    by_cases hfull : len < 64 - m
    · have Hn0 : Hid (len = Nat.min len (64 - m)) := hid (show len = min len (64 - m) by omega)
      have hs3 : ∀ W : World, (Instr.slice 29 (.slice a len cap) (some (.int .i64 (len : Int))) none none).run Tryd.prog W = .ok (.slice (cutA a len cap) (len - len) (cap - len)) W := fun W => run_cut_l Tryd.underlying29 size_byte8 a len cap (len : Int) W (by omega) (by omega)
      have Hdone : Hid (HashAt ((w.setCell ⟨ph, 72, none⟩ (.int .u64 ((bs.length : Int) + len))).setCells ph (8 + m) ((t.take len).map (Value.int .u8))) ph T (bs ++ t) ∧ But ph w ((w.setCell ⟨ph, 72, none⟩ (.int .u64 ((bs.length : Int) + len))).setCells ph (8 + m) ((t.take len).map (Value.int .u8)))) := hid (by
        rw [List.take_of_length_le (show t.length ≤ len by omega)]
        refine ⟨⟨?_, splice R m t, ?_, splice_small hRs HT.out.small, ?_, ?_⟩, But.setCells _ _ _ Hbut2.out⟩
        · intro x hx
          rcases List.mem_append.1 hx with h | h
          · exact hbs x h
          · exact HT.out.small x h
        · rw [length_splice _ _ _ (by omega)]; exact hR
        · have hb := hbl.out
          rw [List.length_append, show (bs.length + t.length) % 64 = m + len by omega, show (bs.length + t.length) / 64 = bs.length / 64 by omega, List.drop_append_of_le_length (by omega), ← HRt.out, show bs.length % 64 = m by omega]
          unfold splice
          rw [List.take_append, List.take_of_length_le (show (R.take m).length ≤ m + len by rw [List.length_take]; omega), List.length_take, Nat.min_eq_left (show m ≤ R.length by omega), show m + len - m = t.length by omega, List.take_left]
        · have hb := hbl.out
          rw [List.length_append, show (bs.length + t.length) / 64 = bs.length / 64 by omega, htl]
          have e : natB (bs ++ t) = natB bs ++ natB t := by simp [natB]
          rw [e, run_append _ _ _ _ (by simp [natB]; omega)]
          exact Hk2.out.hash_put hR m t (by omega))
      go_enter Tryd.func79, Tryd.ntmps79
      go_wp2_with (with_reducible refine wpList_copy_text rfl _ _ _ _ rfl 5 Tryd.underlying29 size_byte8 ph (8 + m) (64 - m) (64 - m) rfl a len cap rfl _ T Hk2.out _ HT2.out (by omega) len Hn0.out ?_)
      go_returns
      have hd := Hdone.out
      simp only [List.map_take] at hd
      exact ⟨rfl, hd.2, hd.1⟩
    · have Hn0 : Hid (64 - m = Nat.min len (64 - m)) := hid (show 64 - m = min len (64 - m) by omega)
      have hsub : ((64 - m : Nat) : Int) = 64 - (m : Int) := by omega
      have hsum : (m : Int) + (64 - (m : Int)) = 64 := by omega
      have hs3 : ∀ W : World, (Instr.slice 29 (.slice a len cap) (some (.int .i64 (64 - (m : Int)))) none none).run Tryd.prog W = .ok (.slice (cutA a (64 - m) cap) (len - (64 - m)) (cap - (64 - m))) W := fun W => by
        have := run_cut_l Tryd.underlying29 size_byte8 a len cap (64 - (m : Int)) W (by omega) (by omega)
        rwa [show ((64 : Int) - (m : Int)).toNat = 64 - m by omega] at this
      obtain ⟨R2, hR2d⟩ : ∃ R2, R2 = splice R m (t.take (64 - m)) := ⟨_, rfl⟩
      have hR2 : R2.length = 64 := by rw [hR2d, length_splice _ _ _ (by rw [List.length_take]; omega)]; exact hR
      have hR2s : ∀ x ∈ R2, 0 ≤ x ∧ x < 256 := by rw [hR2d]; exact splice_small hRs fun x hx => HT.out.small x (List.mem_of_mem_take hx)
      have Hk3 := hid (Hk2.out.hash_put hR m (t.take (64 - m)) (by rw [List.length_take]; omega))
      rw [← hR2d] at Hk3
      have Hbut3 := hid (But.setCells ((t.take (64 - m)).map (Value.int .u8)) (8 + m) _ Hbut2.out)
      simp only [List.map_take] at Hk3 Hbut3
      have HR2 : Hid (((natB (bs ++ t)).drop (64 * (bs.length / 64))).take 64 = natB R2) := hid (by
        have hb := hbl.out
        unfold natB
        rw [← List.map_drop, ← List.map_take, hR2d, List.drop_append_of_le_length (by omega), ← HRt.out, show bs.length % 64 = m by omega]
        congr 1
        unfold splice
        rw [List.take_append, List.take_of_length_le (show (R.take m).length ≤ 64 by rw [List.length_take]; omega), List.length_take, Nat.min_eq_left (show m ≤ R.length by omega), List.length_take, Nat.min_eq_left (show 64 - m ≤ t.length by omega), show m + (64 - m) = R.length by omega, List.drop_length, List.append_nil])
      clear hR2d
      go_enter Tryd.func79, Tryd.ntmps79
      go_wp2_with (with_reducible refine wpList_copy_text rfl _ _ _ _ rfl 5 Tryd.underlying29 size_byte8 ph (8 + m) (64 - m) (64 - m) rfl a len cap rfl _ T Hk2.out _ HT2.out (by omega) (64 - m) Hn0.out ?_)
      have Hbut2' := Hbut2
      clear Hk2 Hbut2
      refine wp_region_flow 7 [0, 1, 2, 3, 4, 5, 6] [] [] (by kernel_rfl) (by kernel_rfl) ?_
      apply Exists.intro
      refine ⟨fun w0 hb0 hF0 => ?_, ?_⟩
      · simp only [pick, List.getElem?_toArray, List.getElem?_cons_succ, List.getElem?_cons_zero, Option.toList_some, List.cons_append, List.nil_append]
        repeat (go_big_quiet_step (fail))
        exact wpQuiet_nil rfl
      refine AlChk.nil ?_
      refine Walk.fin fun w3 h3 _ _ => ?_
      simp only [List.drop_succ_cons, List.drop_zero]
      go_wp2_with fail
      have hk4 := Hk3.out.below h3
      refine (process_any ph T _ (R2.map (Value.int .u8) ++ [.int .u64 ((bs.length + len : Nat) : Int)]) (some ⟨ph, 8, none⟩) 64 R2 w3 (Ok.run Ok.start _ _) hk4 (hk4.hash_rest hR2 hR2s) ((Htab.out.but Hbut3.out hp1 hp0).below h3) hp1).mono ?_
      rintro e w4 ⟨rfl, b4, k4⟩
      have Hinv : Hid (AddInv ph T bs t len w (.slice (cutA a (64 - m) cap) (len - (64 - m)) (cap - (64 - m))) w4) := hid (by
        have hb := hbl.out
        refine ⟨bs.length / 64 + 1, 64 - m, _, _, by omega, by omega, rfl, ?_, fun _ => cutA_ne (Hne.out (by omega)), ⟨R2, hR2, hR2s, ?_⟩, ((Htab.out.but Hbut3.out hp1 hp0).below h3).but b4 hp1 hp0, (Hbut3.out.ext h3).trans b4⟩
        · exact (((HT.out.but Hbut3.out Hne.out).below h3).but b4 Hne.out).from (64 - m) (by omega)
        · rw [Sha.run, HR2.out, show natB (bs ++ t) = natB bs ++ natB t by simp [natB], run_append _ _ _ _ (by simp [natB]; omega)]
          exact k4)
      clear k4 hk4 b4 h3 Hk3 Hbut3 hs3
      go_wp2_with fail
      try simp only [HM.out]
      go_loopw [1] (AddInv ph T bs t len w) (fun v _ => sliceLen v)
      case atStart => exact Hinv.out
      case round =>
        obtain ⟨k, j, a1, cap1, hkj, hj, rfl, hT1, hne1, ⟨R1, hR1, hRs1, hk1⟩, tab1, but1⟩ := hrel
        have hle1 := hT1.le
        have hmx1 := hT1.max
        have HT1 := hid hT1
        have Htab1 := hid tab1
        have Hne1 := hid hne1
        have Hk1 := hid hk1
        have Hbut1 := hid but1
        clear hT1 tab1 hne1 hk1 but1
        by_cases hge : 64 ≤ len - j
        · have hs1 : ∀ W : World, (Instr.slice 29 (.slice a1 (len - j) cap1) none (some (.int .i64 64)) none).run Tryd.prog W = .ok (.slice a1 64 cap1) W := fun W => run_cut_h Tryd.underlying29 size_byte8 a1 (len - j) cap1 64 W (by omega) (by omega)
          have hs2 : ∀ W : World, (Instr.slice 29 (.slice a1 (len - j) cap1) (some (.int .i64 64)) none none).run Tryd.prog W = .ok (.slice (cutA a1 64 cap1) (len - j - 64) (cap1 - 64)) W := fun W => run_cut_l Tryd.underlying29 size_byte8 a1 (len - j) cap1 64 W (by omega) (by omega)
          go_wp2_with fail
          refine wp_region_flow 5 [0, 1, 2, 3, 4] [] [] (by kernel_rfl) (by kernel_rfl) ?_
          apply Exists.intro
          refine ⟨fun w0 hb0 hF0 => ?_, ?_⟩
          · simp only [pick, List.getElem?_toArray, List.getElem?_cons_succ, List.getElem?_cons_zero, Option.toList_some, List.cons_append, List.nil_append]
            repeat (go_big_quiet_step (fail))
            exact wpQuiet_nil rfl
          refine AlChk.nil ?_
          refine Walk.fin fun w3 h3 _ _ => ?_
          simp only [List.drop_succ_cons, List.drop_zero]
          go_wp2_with fail
          refine (process_any ph T _ (R1.map (Value.int .u8) ++ [.int .u64 ((bs.length + len : Nat) : Int)]) a1 cap1 ((t.drop j).take 64) w3 (Ok.run Ok.start _ _) (Hk1.out.below h3) ((HT1.out.to 64 hge).below h3) (Htab1.out.below h3) hp1).mono ?_
          rintro e w4 ⟨rfl, b4, k4⟩
          rw [← natB_drop_take bs t k j hkj] at k4
          have k4' : Blk w4 ph (hashCells (Sha.run Sha.start (natB (bs ++ t)) (k + 1)) R1 (bs.length + len)).toArray T := k4
          have Hinv2 : Hid (AddInv ph T bs t len w (.slice (cutA a1 64 cap1) (len - j - 64) (cap1 - 64)) w4) := hid (by
            refine ⟨k + 1, j + 64, cutA a1 64 cap1, cap1 - 64, by omega, by omega, ?_, ?_, fun _ => cutA_ne (Hne1.out (by omega)), ⟨R1, hR1, hRs1, k4'⟩, (Htab1.out.below h3).but b4 hp1 hp0, (Hbut1.out.ext h3).trans b4⟩
            · rw [Nat.sub_sub]
            · have := ((HT1.out.below h3).but b4 Hne1.out).from 64 hge
              rwa [Nat.sub_sub, List.drop_drop] at this)
          clear k4 k4' b4 h3
          go_wp2_with fail
          exact ⟨Hinv2.out, by simp only [sliceLen]; omega⟩
        · have Hdone : Hid (HashAt (wr.setCells ph 8 (((t.drop j).take (len - j)).map (Value.int .u8))) ph T (bs ++ t) ∧ But ph w (wr.setCells ph 8 (((t.drop j).take (len - j)).map (Value.int .u8)))) := hid (by
            have hl : (t.drop j).length = len - j := HT1.out.length
            have htl : t.length = len := HT.out.length
            have et : (t.drop j).take (len - j) = t.drop j := List.take_of_length_le (by omega)
            rw [et]
            refine ⟨⟨?_, splice R1 0 (t.drop j), ?_, splice_small hRs1 HT1.out.small, ?_, ?_⟩, But.setCells _ _ _ Hbut1.out⟩
            · intro x hx
              rcases List.mem_append.1 hx with h | h
              · exact hbs x h
              · exact HT.out.small x h
            · rw [length_splice _ _ _ (by omega)]; exact hR1
            · rw [List.length_append, show (bs.length + t.length) % 64 = len - j by omega, show 64 * ((bs.length + t.length) / 64) = bs.length + j by omega, ← List.drop_drop, List.drop_left]
              unfold splice
              rw [List.take_zero, List.nil_append, ← hl, List.take_left]
            · rw [List.length_append, show (bs.length + t.length) / 64 = k by omega, htl]
              exact Hk1.out.hash_put hR1 0 (t.drop j) (by omega))
          have hsz := hashCells_size (Sha.run Sha.start (natB (bs ++ t)) k) R1 (bs.length + len) hR1
          have Hn0 : Hid (len - j = Nat.min (len - j) 64) := hid (show len - j = min (len - j) 64 by omega)
          go_wp2_with (with_reducible refine wpList_copy_text rfl _ _ _ _ rfl 5 Tryd.underlying29 size_byte8 ph 8 64 64 rfl a1 (len - j) cap1 rfl _ T Hk1.out _ HT1.out (by omega) (len - j) Hn0.out ?_)
          go_returns
          have hd := Hdone.out
          simp only [List.map_take, List.map_drop] at hd
          exact ⟨rfl, hd.2, hd.1⟩
end Go.Proofs.YtkakoiaahgchmaaDoor
namespace Go.Proofs.YtkakoiaahgchmaaDoor
set_option maxRecDepth 100000
open Go.RowKit
theorem nbe_succ : ∀ (k n : Nat), Sha.nbe (k + 1) n = (n / 256 ^ k % 256) :: Sha.nbe k n
  | 0, n => by simp [Sha.nbe]
  | k + 1, n => by
    rw [Sha.nbe, nbe_succ k (n / 256), Nat.div_div_eq_div_mul, show 256 * 256 ^ k = 256 ^ (k + 1) by rw [Nat.pow_succ, Nat.mul_comm]]
    rfl
theorem nbe_length : ∀ (k n : Nat), (Sha.nbe k n).length = k
  | 0, _ => rfl
  | k + 1, n => by rw [nbe_succ, List.length_cons, nbe_length k n]
theorem nbe_lt : ∀ (k n : Nat), ∀ x ∈ Sha.nbe k n, x < 256
  | 0, _, x, hx => by simp [Sha.nbe] at hx
  | k + 1, n, x, hx => by
    rw [nbe_succ, List.mem_cons] at hx
    rcases hx with rfl | hx
    · exact Nat.mod_lt _ (by decide)
    · exact nbe_lt k n x hx
def toZ (l : List Nat) : List Int := l.map (fun n : Nat => (n : Int))
theorem natB_toZ : ∀ l : List Nat, natB (toZ l) = l
  | [] => rfl
  | n :: l => by
    have := natB_toZ l
    unfold natB toZ at *
    rw [List.map_cons, List.map_cons, this]
    rfl
theorem toZ_small {l : List Nat} (h : ∀ x ∈ l, x < 256) : ∀ x ∈ toZ l, 0 ≤ x ∧ x < 256 := by
  intro x hx
  obtain ⟨y, hy, rfl⟩ := List.mem_map.1 hx
  have := h y hy
  omega
theorem sum_short (bs : List Nat) (k m : Nat) (hl : bs.length = 64 * k + m) (hm : m ≤ 55) :
    Sha.sum bs = Sha.out (Sha.compress (Sha.run Sha.start bs k) (bs.drop (64 * k) ++ 128 :: (List.replicate (55 - m) 0 ++ Sha.nbe 8 (8 * bs.length)))) := by
  have hz : Sha.zerosFor bs.length = 55 - m := by unfold Sha.zerosFor; omega
  have hp : Sha.pad bs = bs ++ 128 :: (List.replicate (55 - m) 0 ++ Sha.nbe 8 (8 * bs.length)) := by rw [Sha.pad, hz]
  have hlen : (Sha.pad bs).length / 64 = k + 1 := by
    rw [hp]
    simp only [List.length_append, List.length_cons, List.length_replicate, nbe_length]
    omega
  unfold Sha.sum
  rw [hlen, Sha.run, hp, run_append _ _ _ _ (by omega), List.drop_append_of_le_length (by omega), List.take_of_length_le]
  simp only [List.length_append, List.length_cons, List.length_replicate, nbe_length, List.length_drop]
  omega
theorem sum_long (bs : List Nat) (k m : Nat) (hl : bs.length = 64 * k + m) (hm : 55 < m) (hm2 : m < 64) :
    Sha.sum bs = Sha.out (Sha.compress (Sha.compress (Sha.run Sha.start bs k) (bs.drop (64 * k) ++ 128 :: List.replicate (63 - m) 0)) (List.replicate 56 0 ++ Sha.nbe 8 (8 * bs.length))) := by
  have hz : Sha.zerosFor bs.length = (63 - m) + 56 := by unfold Sha.zerosFor; omega
  have hp : Sha.pad bs = (bs ++ 128 :: List.replicate (63 - m) 0) ++ (List.replicate 56 0 ++ Sha.nbe 8 (8 * bs.length)) := by
    rw [Sha.pad, hz, ← List.replicate_append_replicate]
    simp only [List.append_assoc, List.cons_append]
  have hlen : (Sha.pad bs).length / 64 = k + 2 := by
    rw [hp]
    simp only [List.length_append, List.length_cons, List.length_replicate, nbe_length]
    omega
  have hl2 : (bs ++ 128 :: List.replicate (63 - m) 0).length = 64 * (k + 1) := by
    simp only [List.length_append, List.length_cons, List.length_replicate]
    omega
  unfold Sha.sum
  rw [hlen, Sha.run, hp, run_append _ _ _ _ (by omega), ← hl2, List.drop_left, List.take_of_length_le (by simp [nbe_length])]
  congr 2
  rw [Sha.run, run_append _ _ _ _ (by omega), List.drop_append_of_le_length (by omega), List.take_of_length_le]
  simp only [List.length_append, List.length_cons, List.length_replicate, List.length_drop]
  omega
/-- the sum of bytes -/
@[irreducible] def sumZ (bs : List Int) : List Int := toZ (Sha.sum (natB bs))
theorem out_length (s : Sha.St) : (Sha.out s).length = 32 := by simp [Sha.out, nbe_length]
theorem out_lt (s : Sha.St) : ∀ x ∈ Sha.out s, x < 256 := by
  intro x hx
  simp only [Sha.out, List.mem_append] at hx
  rcases hx with ((((((h | h) | h) | h) | h) | h) | h) | h <;> exact nbe_lt _ _ x h
theorem sumZ_length (bs : List Int) : (sumZ bs).length = 32 := by simp [sumZ, toZ, Sha.sum, out_length]
theorem sumZ_small (bs : List Int) : ∀ x ∈ sumZ bs, 0 ≤ x ∧ x < 256 := by unfold sumZ; exact toZ_small (out_lt _)
/-- the words of a state -/
def words (s : Sha.St) : List Nat := [s.a, s.b, s.c, s.d, s.e, s.f, s.g, s.h]
theorem stCells_words (s : Sha.St) : stCells s = (words s).map fun n : Nat => Value.int .u32 n := rfl
theorem out_words (s : Sha.St) : Sha.out s = (words s).flatMap (Sha.nbe 4) := by
  simp [Sha.out, words]
/-- bytes, then 0 -/
def byteCells (n : Nat) (bs : List Int) : Array Value := (bs.map (Value.int .u8) ++ List.replicate (n - bs.length) (Value.int .u8 0)).toArray
theorem byteCells_set (n : Nat) (bs : List Int) (x : Int) (h : bs.length < n) : (byteCells n bs).setIfInBounds bs.length (.int .u8 x) = byteCells n (bs ++ [x]) := by
  unfold byteCells
  rw [List.setIfInBounds_toArray, List.set_append_right _ _ (by simp)]
  simp only [List.length_map, Nat.sub_self, List.map_append, List.map_cons, List.map_nil, List.length_append, List.length_cons, List.length_nil, List.append_assoc, List.singleton_append]
  congr 2
  obtain ⟨m, hm⟩ : ∃ m, n - bs.length = m + 1 := ⟨n - bs.length - 1, by omega⟩
  rw [hm, show n - (bs.length + (0 + 1)) = m by omega, List.replicate_succ, List.set_cons_zero]
theorem byteCells_size (n : Nat) (bs : List Int) (h : bs.length ≤ n) : (byteCells n bs).size = n := by simp [byteCells]; omega
theorem byteCells_full (n : Nat) (bs : List Int) (h : bs.length = n) : byteCells n bs = (bs.map (Value.int .u8)).toArray := by simp [byteCells, h]
end Go.Proofs.YtkakoiaahgchmaaDoor
namespace Go.Proofs.YtkakoiaahgchmaaDoor
set_option maxRecDepth 100000
open Go.ChangeShapes Go.WideShapes Go.ChangeAt Go.RowKit
end Go.Proofs.YtkakoiaahgchmaaDoor
namespace Go.Proofs.YtkakoiaahgchmaaDoor
set_option maxRecDepth 100000
open Go.ChangeShapes Go.WideShapes Go.ChangeAt Go.RowKit
theorem wpList_clear_hash {P : Program} {ops : Array Oper} {rest : List Oper} {op : Oper} {act : Act} {w : World} {Q : Exit → Act → World → Prop} (hgd : op.guard = none) (s : Operand) (t : TypeId)
    (ho : op.op = .call { callee := .builtin .clear, args := #[s], argTypes := #[t] }) (e : TypeId) (ht : P.underlying t = some (.slice e)) (hv : ∀ w, (zeroValue e).run P w = .ok (.int .u8 0) w)
    (ph o n c : Nat) (d : Option Addr) (hse : act.eval s = .slice d n c) (hd : 0 < n → d = some ⟨ph, 8 + o, none⟩) (st : Sha.St) (R : List Int) (N : Nat) (T : TypeId) (hk : Blk w ph (hashCells st R N).toArray T) (hR : R.length = 64) (hfit : o + n ≤ 64)
    (h : ∀ w', Hid (But ph w w') → Hid (Blk w' ph (hashCells st (splice R o (List.replicate n 0)) N).toArray T) → wpList P ops Q rest (act.put op.dst (.tuple #[])) w') : wpList P ops Q (op :: rest) act w := by
  have hs := hashCells_size st R N hR
  refine wpList_clear_blk hgd s t ho e ht hv ph (8 + o) n c d hse hd _ T hk (by omega) (h _ (But.setCells _ _ _ (But.of (Below.refl _ _))) ?_)
  have := hk.hash_put hR o (List.replicate n 0) (by simpa using hfit)
  rwa [List.map_replicate] at this
theorem splice_one (A B : List Int) (x y : Int) : splice (A ++ x :: B) A.length [y] = A ++ y :: B := by
  unfold splice
  rw [List.take_left, List.length_singleton, List.singleton_append, ← List.drop_drop, List.drop_left]
  rfl
theorem put_byte (R : List Int) (hR : R.length = 64) (N j : Nat) (hj : j < 8) (v : Int) (hv : v = ((N / 256 ^ j % 256 : Nat) : Int)) : splice (R.take (64 - j) ++ toZ (Sha.nbe j N)) (63 - j) [v] = R.take (63 - j) ++ toZ (Sha.nbe (j + 1) N) := by
  have h1 : R.take (64 - j) = R.take (63 - j) ++ [R.getD (63 - j) 0] := by
    rw [show 64 - j = 63 - j + 1 by omega, List.take_succ_eq_append_getElem (by omega), List.getD_eq_getElem?_getD, List.getElem?_eq_getElem (by omega)]
    rfl
  have h2 : (R.take (63 - j)).length = 63 - j := by rw [List.length_take]; omega
  have := splice_one (R.take (63 - j)) (toZ (Sha.nbe j N)) (R.getD (63 - j) 0) v
  rw [h2] at this
  rw [h1, List.append_assoc, List.singleton_append, this, nbe_succ, hv]
  rfl
theorem size_digest : (Tryd.prog.info? 23).map (·.size) = some 32 := by kernel_rfl
theorem flat_len : ∀ l : List Nat, (l.flatMap (Sha.nbe 4)).length = 4 * l.length
  | [] => rfl
  | a :: l => by rw [List.flatMap_cons, List.length_append, flat_len l, nbe_length, List.length_cons]; omega
theorem words_lt {s : Sha.St} (h : Ok s) (i : Nat) : (words s).getD i 0 < 4294967296 := by
  obtain ⟨a, b, c, d, e, f, g, hh⟩ := h
  unfold words
  match i with
  | 0 => exact a
  | 1 => exact b
  | 2 => exact c
  | 3 => exact d
  | 4 => exact e
  | 5 => exact f
  | 6 => exact g
  | 7 => exact hh
  | n + 8 => simp
theorem byteCells_zero (n : Nat) (bs : List Int) (j : Nat) (h0 : bs.length ≤ j) (h : j < n) : (byteCells n bs)[j]? = some (.int .u8 0) := by
  unfold byteCells
  rw [List.getElem?_toArray, List.getElem?_append_right (by simpa using h0), List.getElem?_replicate, if_pos (by simp; omega)]
theorem put_four {w : World} {b i : Nat} {T : TypeId} {L : List Int} (h : Blk w b (byteCells 32 L) T) (hl : L.length = 4 * i) (hi : i < 8) (X : Nat) (hX : X < 4294967296) :
    Blk ((((w.setCell ⟨b, 4 * i, none⟩ (.int .u8 ((X : Int) / 16777216))).setCell ⟨b, 4 * i + 1, none⟩ (.int .u8 ((X : Int) / 65536 % 256))).setCell ⟨b, 4 * i + 2, none⟩ (.int .u8 ((X : Int) / 256 % 256))).setCell ⟨b, 4 * i + 3, none⟩ (.int .u8 ((X : Int) % 256))) b (byteCells 32 (L ++ toZ (Sha.nbe 4 X))) T := by
  have h0 := h.set (4 * i) (.int .u8 ((X : Int) / 16777216))
  rw [← hl, byteCells_set 32 L _ (by omega)] at h0
  have h1 := h0.set (4 * i + 1) (.int .u8 ((X : Int) / 65536 % 256))
  rw [show 4 * i + 1 = (L ++ [(X : Int) / 16777216]).length by simp [hl], byteCells_set 32 _ _ (by simp; omega)] at h1
  have h2 := h1.set (4 * i + 2) (.int .u8 ((X : Int) / 256 % 256))
  rw [show 4 * i + 2 = (L ++ [(X : Int) / 16777216] ++ [(X : Int) / 65536 % 256]).length by simp [hl], byteCells_set 32 _ _ (by simp; omega)] at h2
  have h3 := h2.set (4 * i + 3) (.int .u8 ((X : Int) % 256))
  rw [show 4 * i + 3 = (L ++ [(X : Int) / 16777216] ++ [(X : Int) / 65536 % 256] ++ [(X : Int) / 256 % 256]).length by simp [hl], byteCells_set 32 _ _ (by simp; omega)] at h3
  have e : L ++ toZ (Sha.nbe 4 X) = L ++ [(X : Int) / 16777216] ++ [(X : Int) / 65536 % 256] ++ [(X : Int) / 256 % 256] ++ [(X : Int) % 256] := by
    simp only [Sha.nbe, toZ, List.nil_append, List.cons_append, List.map_cons, List.map_nil, List.append_assoc]
    have e0 : (((X / 256 / 256 / 256 % 256 : Nat)) : Int) = (X : Int) / 16777216 := by omega
    have e1 : (((X / 256 / 256 % 256 : Nat)) : Int) = (X : Int) / 65536 % 256 := by omega
    have e2 : (((X / 256 % 256 : Nat)) : Int) = (X : Int) / 256 % 256 := by omega
    have e3 : (((X % 256 : Nat)) : Int) = (X : Int) % 256 := by omega
    rw [e0, e1, e2, e3]
  rw [e]
  simp only [List.length_append, List.length_cons, List.length_nil, hl] at h3
  exact h3
theorem But.fresh {b c : Nat} {w w' w'' : World} (h : But b w w') (h2 : But c w' w'') (hc : w.heap.size ≤ c) : But b w w'' :=
  ⟨h2.os.trans h.os, h2.tape.trans h.tape, h2.output.trans h.output, Nat.le_trans h.size h2.size, fun k hk hne => (h2.block k (Nat.lt_of_lt_of_le hk h.size) (by omega)).trans (h.block k hk hne)⟩
/-- the hash while it is finished -/
structure FinW (ph : Nat) (T : TypeId) (w : World) (st : Sha.St) (R : List Int) (N : Nat) (wr : World) : Prop where
  hash : Blk wr ph (hashCells st R N).toArray T
  res : Blk wr w.heap.size (byteCells 32 []) 23
  tab : ShaTab wr
  but : But ph w wr
theorem FinW.next {ph : Nat} {T : TypeId} {w : World} {st st' : Sha.St} {R R' : List Int} {N : Nat} {wr wr' : World} (h : FinW ph T w st R N wr) (hb : But ph wr wr') (hk : Blk wr' ph (hashCells st' R' N).toArray T) (hne : ph < w.heap.size) (hp1 : ph ≠ 1) (hp0 : ph ≠ 0) : FinW ph T w st' R' N wr' :=
  ⟨hk, hb.blk h.res (by omega), h.tab.but hb hp1 hp0, h.but.trans hb⟩
theorem FinW.below {ph : Nat} {T : TypeId} {w : World} {st : Sha.St} {R : List Int} {N : Nat} {wr wr' : World} (h : FinW ph T w st R N wr) (hb : Below wr.heap.size wr wr') : FinW ph T w st R N wr' :=
  ⟨h.hash.below hb, h.res.below hb, h.tab.below hb, h.but.ext hb⟩
set_option maxHeartbeats 8000000 in
theorem finish_any (ph : Nat) (T : TypeId) (bs : List Int) (w : World) (hH : HashAt w ph T bs) (hbnd : bs.length < 1152921504606846976) (tab : ShaTab w) (hp1 : ph ≠ 1) (hp0 : ph ≠ 0) :
    Calls Tryd.prog 80 #[.pointer (some ⟨ph, 0, none⟩)] w fun e w' => e = .returned (.agg ((sumZ bs).map (Value.int .u8)).toArray) ∧ But ph w w' := by
  obtain ⟨hbs, R, hR, hRs, hRt, hk⟩ := hH
  have hlt := hk.lt
  obtain ⟨m, hm⟩ : ∃ m : Nat, (bs.length : Int) % 64 = m := ⟨bs.length % 64, by omega⟩
  have hm64 : m < 64 := by omega
  have qS : w.cell? ⟨ph, 72, none⟩ = some (.int .u64 (bs.length : Nat)) := (hk.cell 72).trans (hashCells_len _ _ _ hR)
  have qm : w.cell? ⟨ph, 8 + m, none⟩ = some (.int .u8 (R.getD m 0)) := (hk.cell (8 + m)).trans (hashCells_rest _ _ _ _ hR hm64)
  have f1 := hk.free
  have HF1 : Hid (FinW ph T w (Sha.run Sha.start (natB bs) (bs.length / 64)) (splice R m [128]) bs.length ((w.setCell ⟨ph, 8 + m, none⟩ (.int .u8 128)).alloc (.cells #[.int .u8 0, .int .u8 0, .int .u8 0, .int .u8 0, .int .u8 0, .int .u8 0, .int .u8 0, .int .u8 0, .int .u8 0, .int .u8 0, .int .u8 0, .int .u8 0, .int .u8 0, .int .u8 0, .int .u8 0, .int .u8 0, .int .u8 0, .int .u8 0, .int .u8 0, .int .u8 0, .int .u8 0, .int .u8 0, .int .u8 0, .int .u8 0, .int .u8 0, .int .u8 0, .int .u8 0, .int .u8 0, .int .u8 0, .int .u8 0, .int .u8 0, .int .u8 0] 23))) := hid (by
    have hw := hk.hash_put hR m [128] (by simp; omega)
    have but1 := (But.of (b := ph) (Below.refl w.heap.size w)).set (p := ⟨ph, 8 + m, none⟩) (.inl rfl) (.int .u8 128)
    refine ⟨Blk.old hw _, Blk.new ?_ (byteCells 32 []) _, (tab.but but1 hp1 hp0).below ((Below.refl _ _).alloc (Nat.le_refl _) _), but1.ext ((Below.refl _ _).alloc (Nat.le_refl _) _)⟩
    simp [World.setCell])
  have HRt := hid hRt
  have Hbl : Hid (bs.length = 64 * (bs.length / 64) + m) := hid (by omega)
  obtain ⟨d, hd, hsl⟩ : ∃ d : Option Addr, (0 < 63 - m → d = some ⟨ph, 8 + (m + 1), none⟩) ∧ ∀ W : World, (Instr.sliceAt 113 (.pointer (some ⟨ph, 8, none⟩)) (some (.int .i64 ((m : Int) + 1))) none none).run Tryd.prog W = .ok (.slice d (63 - m) (63 - m)) W := by
    refine ⟨some (if 64 = m + 1 then ⟨ph, 8, none⟩ else ⟨ph, 8 + (m + 1), none⟩), fun h => by rw [if_neg (by omega)], fun W => ?_⟩
    have hal : Tryd.prog.arrayLen 113 = 64 := by kernel_rfl
    rw [run_sliceAt_array_l W 113 ⟨ph, 8, none⟩ (by kernel_rfl) .i64 ((m : Int) + 1) (by omega) (by rw [hal]; omega), hal]
    have hsi : (sizeOf (Tryd.prog.elem 113)).run Tryd.prog W = .ok 1 W := by kernel_rfl
    rw [hsi, Result.andThen_ok]
    unfold slicedAt
    rw [show ((m : Int) + 1).toNat = m + 1 by omega, Nat.mul_one, Addr.add_mid, show 64 - (m + 1) = 63 - m by omega]
  have Hd := hid hd
  have hsa : ∀ W : World, (Instr.sliceAt 113 (.pointer (some ⟨ph, 8, none⟩)) none none none).run Tryd.prog W = .ok (.slice (some ⟨ph, 8, none⟩) 64 64) W := fun W => by
    have hal : Tryd.prog.arrayLen 113 = 64 := by kernel_rfl
    rw [run_sliceAt_array_all W 113 ⟨ph, 8, none⟩ (by kernel_rfl), hal]
    have hsi : (sizeOf (Tryd.prog.elem 113)).run Tryd.prog W = .ok 1 W := by kernel_rfl
    rw [hsi, Result.andThen_ok]
    rfl
  have hz : ∀ W, (zeroValue 5).run Tryd.prog W = .ok (.int .u8 0) W := fun W => by kernel_rfl
  have Hz : Hid (∀ W, (zeroValue 5).run Tryd.prog W = .ok (.int .u8 0) W) := hid hz
  have hR1 : (splice R m [128]).length = 64 := by rw [length_splice _ _ _ (by simp; omega)]; exact hR
  obtain ⟨R2, hR2d⟩ : ∃ R2, R2 = splice (splice R m [128]) (m + 1) (List.replicate (63 - m) 0) := ⟨_, rfl⟩
  have hR2e : R2 = bs.drop (64 * (bs.length / 64)) ++ 128 :: List.replicate (63 - m) 0 := by
    have h2 : (R.take m).length = m := by rw [List.length_take]; omega
    have h1 : splice R m [128] = R.take m ++ 128 :: R.drop (m + 1) := by simp [splice]
    have h3 : (R.take m ++ [(128 : Int)]).length = m + 1 := by simp [h2]
    have h4 : splice R m [128] = (R.take m ++ [128]) ++ R.drop (m + 1) := by rw [h1]; simp
    rw [hR2d, h4, ← hRt, show bs.length % 64 = m by omega]
    unfold splice
    rw [← h3, List.take_left, ← List.drop_drop, List.drop_left, List.drop_drop, h3, List.drop_eq_nil_of_le (by simp; omega)]
    simp
  have hR2 : R2.length = 64 := by rw [hR2d, length_splice _ _ _ (by simp; omega)]; exact hR1
  have hR2s : ∀ x ∈ R2, 0 ≤ x ∧ x < 256 := by
    rw [hR2d]
    refine splice_small (splice_small hRs ?_) ?_
    · intro x hx; simp at hx; omega
    · intro x hx; have := List.eq_of_mem_replicate hx; omega
  have HR2e := hid hR2e
  clear hk tab hRt hd hz hR2e
  have hR2d' := hid hR2d
  clear hR2d
  by_cases hm55 : m ≤ 55
  · go_enter Tryd.func80, Tryd.ntmps80
    go_wp2_with (with_reducible refine wpList_clear_hash rfl _ 29 rfl 5 Tryd.underlying29 Hz.out ph (m + 1) (63 - m) (63 - m) d rfl Hd.out _ _ _ T HF1.out.hash hR1 (by omega) ?_; intro w2 HB2 HK2)
    rw [← hR2d'.out] at HK2
    have HF3 : Hid (FinW ph T w (Sha.run Sha.start (natB bs) (bs.length / 64)) R2 bs.length w2) := hid (HF1.out.next HB2.out HK2.out hlt hp1 hp0)
    have Hsum : Hid (sumZ bs = toZ (Sha.out (Sha.compress (Sha.run Sha.start (natB bs) (bs.length / 64)) (natB (R2.take 56 ++ toZ (Sha.nbe 8 (8 * bs.length))))))) := hid (by
      have hnl : (natB bs).length = bs.length := by simp [natB]
      have hb := Hbl.out
      unfold sumZ
      rw [sum_short (natB bs) (bs.length / 64) m (by rw [hnl]; exact hb) hm55, hnl]
      congr 3
      have e1 : R2.take 56 = bs.drop (64 * (bs.length / 64)) ++ 128 :: List.replicate (55 - m) 0 := by
        have hd : (bs.drop (64 * (bs.length / 64))).length = m := by rw [List.length_drop]; omega
        rw [HR2e.out, List.take_append, List.take_of_length_le (by omega), hd, show 56 - m = (55 - m) + 1 by omega, List.take_succ_cons, List.take_replicate, Nat.min_eq_left (by omega)]
      have e2 : natB (toZ (Sha.nbe 8 (8 * bs.length))) = Sha.nbe 8 (8 * bs.length) := natB_toZ _
      unfold natB at *
      rw [List.map_append, e2, e1, List.map_append, List.map_drop, List.map_cons, List.map_replicate]
      simp)
    clear HB2 HK2 HF1 HR2e
    go_loopw [46] (fun v wr => ∃ j : Nat, j ≤ 8 ∧ v = .int .i64 j ∧ FinW ph T w (Sha.run Sha.start (natB bs) (bs.length / 64)) (R2.take (64 - j) ++ toZ (Sha.nbe j (8 * bs.length))) bs.length wr) (fun v _ => 8 - (intOf v).toNat)
    case atStart =>
      refine ⟨0, by omega, rfl, ?_⟩
      rw [List.take_of_length_le (show R2.length ≤ 64 - 0 by omega), show toZ (Sha.nbe 0 (8 * bs.length)) = [] from rfl, List.append_nil]
      exact HF3.out
    case round =>
      obtain ⟨j, hj, rfl, hF⟩ := hrel
      by_cases hlt8 : j < 8
      · have hRj : (R2.take (64 - j) ++ toZ (Sha.nbe j (8 * bs.length))).length = 64 := by
          rw [List.length_append, List.length_take, toZ, List.length_map, nbe_length]; omega
        have q := (hF.hash.cell (8 + (63 - j))).trans (hashCells_rest _ _ _ (63 - j) hRj (by omega))
        have f1 := hF.hash.free
        have hlt2 := hF.hash.lt
        have HF := hid hF
        have e1 : ((63 : Int) - (j : Int)).toNat = 63 - j := by omega
        have e2 : ((8 : Int) * (j : Int)).toNat = 8 * j := by omega
        generalize (R2.take (64 - j) ++ toZ (Sha.nbe j (8 * bs.length))).getD (63 - j) 0 = old at q
        clear hF
        go_wp2_with fail
        refine wp_region_flow 11 [0, 1, 2, 3, 4, 5, 6, 7, 8, 9, 10] [] [] (by kernel_rfl) (by kernel_rfl) ?_
        apply Exists.intro
        refine ⟨fun w0 hb0 hF0 => ?_, ?_⟩
        · simp only [pick, List.getElem?_toArray, List.getElem?_cons_succ, List.getElem?_cons_zero, Option.toList_some, List.cons_append, List.nil_append]
          repeat (go_big_quiet_step (fail))
          exact wpQuiet_nil rfl
        refine AlChk.nil ?_
        refine Walk.fin fun w3 h3 _ _ => ?_
        simp only [List.drop_succ_cons, List.drop_zero]
        have HF3' := hid (HF.out.below h3)
        have q3 := (h3.cell (p := ⟨ph, 8 + (63 - j), none⟩) hlt2).trans q
        have f3 := HF3'.out.hash.free
        clear q f1 h3 HF
        go_wp2_with fail
        have hv : ((bs.length : Int) * 8 / 2 ^ (8 * j) % 256) = ((8 * bs.length / 256 ^ j % 256 : Nat) : Int) := by
          have hp : (2 : Int) ^ (8 * j) = ((256 ^ j : Nat) : Int) := by
            rw [show 256 ^ j = 2 ^ (8 * j) by rw [Nat.pow_mul], Int.natCast_pow]
            rfl
          rw [hp, Int.natCast_emod, Int.natCast_ediv, Int.natCast_mul, Int.mul_comm]
          rfl
        refine ⟨⟨j + 1, by omega, by go_num, HF3'.out.next ((But.of (Below.refl _ _)).set (p := ⟨ph, 8 + (63 - j), none⟩) (.inl rfl) _) ?_ hlt hp1 hp0⟩, by simp [intOf]; omega⟩
        have hk9 := HF3'.out.hash.hash_put hRj (63 - j) [((bs.length : Int) * 8 / 2 ^ (8 * j) % 256)] (by rw [List.length_singleton]; omega)
        rw [put_byte R2 hR2 _ j hlt8 _ hv] at hk9
        rw [show 64 - (j + 1) = 63 - j by omega]
        exact hk9
      · have h8 : j = 8 := by omega
        have hF8 : FinW ph T w (Sha.run Sha.start (natB bs) (bs.length / 64)) (R2.take 56 ++ toZ (Sha.nbe 8 (8 * bs.length))) bs.length wr := by
          rw [h8] at hF; exact hF
        have HF8 := hid hF8
        have hR8 : (R2.take 56 ++ toZ (Sha.nbe 8 (8 * bs.length))).length = 64 := by
          rw [List.length_append, List.length_take, toZ, List.length_map, nbe_length]; omega
        have hR8s : ∀ x ∈ R2.take 56 ++ toZ (Sha.nbe 8 (8 * bs.length)), 0 ≤ x ∧ x < 256 := fun x hx => by
          rcases List.mem_append.1 hx with h | h
          · exact hR2s x (List.mem_of_mem_take h)
          · exact toZ_small (nbe_lt _ _) x h
        generalize hR9 : R2.take 56 ++ toZ (Sha.nbe 8 (8 * bs.length)) = R9 at *
        have H8 := hid h8
        clear hF hF8 h8
        go_wp2_with fail
        refine wp_region_flow 7 [0, 1, 2, 3, 4, 5, 6] [] [] (by kernel_rfl) (by kernel_rfl) ?_
        apply Exists.intro
        refine ⟨fun w0 hb0 hF0 => ?_, ?_⟩
        · simp only [pick, List.getElem?_toArray, List.getElem?_cons_succ, List.getElem?_cons_zero, Option.toList_some, List.cons_append, List.nil_append]
          repeat (go_big_quiet_step (fail))
          exact wpQuiet_nil rfl
        refine AlChk.nil ?_
        refine Walk.fin fun w3 h3 _ _ => ?_
        simp only [List.drop_succ_cons, List.drop_zero]
        have HF9 := HF8.out.below h3
        have hk4 := HF9.hash
        go_wp2_with fail
        refine (process_any ph T _ (R9.map (Value.int .u8) ++ [.int .u64 (bs.length : Nat)]) (some ⟨ph, 8, none⟩) 64 R9 w3 (Ok.run Ok.start _ _) hk4 (hk4.hash_rest hR8 hR8s) HF9.tab hp1).mono ?_
        rintro e w4 ⟨rfl, b4, k4⟩
        have hFA := HF9.next b4 (st' := Sha.compress (Sha.run Sha.start (natB bs) (bs.length / 64)) (natB R9)) (R' := R9) k4 hlt hp1 hp0
        have okA : Ok (Sha.compress (Sha.run Sha.start (natB bs) (bs.length / 64)) (natB R9)) := Ok.compress _ _
        generalize Sha.compress (Sha.run Sha.start (natB bs) (bs.length / 64)) (natB R9) = sf at *
        have HFA := hid hFA
        have g0 : w4.cell? ⟨ph, 0, none⟩ = some (.int .u32 sf.a) := (hFA.hash.cell 0).trans rfl
        have g1 : w4.cell? ⟨ph, 1, none⟩ = some (.int .u32 sf.b) := (hFA.hash.cell 1).trans rfl
        have g2 : w4.cell? ⟨ph, 2, none⟩ = some (.int .u32 sf.c) := (hFA.hash.cell 2).trans rfl
        have g3 : w4.cell? ⟨ph, 3, none⟩ = some (.int .u32 sf.d) := (hFA.hash.cell 3).trans rfl
        have g4 : w4.cell? ⟨ph, 4, none⟩ = some (.int .u32 sf.e) := (hFA.hash.cell 4).trans rfl
        have g5 : w4.cell? ⟨ph, 5, none⟩ = some (.int .u32 sf.f) := (hFA.hash.cell 5).trans rfl
        have g6 : w4.cell? ⟨ph, 6, none⟩ = some (.int .u32 sf.g) := (hFA.hash.cell 6).trans rfl
        have g7 : w4.cell? ⟨ph, 7, none⟩ = some (.int .u32 sf.h) := (hFA.hash.cell 7).trans rfl
        have hlt4 := hFA.hash.lt
        have hres4 := hFA.res.lt
        have kd := Blk.new (w := w4) rfl (byteCells 32 []) 23
        have Hkd := hid kd
        clear hk4 HF9 b4 k4 h3 hFA kd
        go_wp2_with fail
        clear g0 g1 g2 g3 g4 g5 g6 g7
        go_loopw [73] (fun v wq => ∃ i : Nat, i ≤ 8 ∧ v = .int .i64 i ∧ Blk wq w4.heap.size (byteCells 32 (toZ (((words sf).take i).flatMap (Sha.nbe 4)))) 23 ∧ Below w4.heap.size w4 wq) (fun v _ => 8 - (intOf v).toNat)
        case atStart => exact ⟨0, by omega, rfl, Hkd.out, (Below.refl _ _).alloc (Nat.le_refl _) _⟩
        case round =>
          obtain ⟨i, hi, rfl, kr, br⟩ := hrel
          by_cases hlti : i < 8
          · have hix : ∀ W, (Instr.index 112 (.agg #[.int .u32 sf.a, .int .u32 sf.b, .int .u32 sf.c, .int .u32 sf.d, .int .u32 sf.e, .int .u32 sf.f, .int .u32 sf.g, .int .u32 sf.h]) (.int .i64 i)).run Tryd.prog W = .ok (.int .u32 ((toZ (words sf)).getD i 0)) W := fun W => run_index_ints (P := Tryd.prog) (e := 103) (n := 8) (by kernel_rfl) (by kernel_rfl) rfl rfl (toZ (words sf)) rfl i hlti W
            have hx : (toZ (words sf)).getD i 0 = (((words sf).getD i 0 : Nat) : Int) := by
              have : i < (words sf).length := hlti
              simp [toZ, this]
            have hxl : (words sf).getD i 0 < 4294967296 := words_lt okA i
            rw [hx] at hix
            have hts : (words sf).take (i + 1) = (words sf).take i ++ [(words sf).getD i 0] := by
              have : i < (words sf).length := hlti
              rw [List.take_succ_eq_append_getElem this]
              simp [this]
            have Hts := hid hts
            clear hx hts
            generalize (words sf).getD i 0 = X at *
            have hbl : (toZ (((words sf).take i).flatMap (Sha.nbe 4))).length = 4 * i := by
              rw [toZ, List.length_map, flat_len, List.length_take, Nat.min_eq_left (show i ≤ (words sf).length from Nat.le_of_lt hlti)]
            generalize hLd : toZ (((words sf).take i).flatMap (Sha.nbe 4)) = L at *
            have HL := hid hLd
            clear hLd
            have z0 : wr.cell? ⟨w4.heap.size, 4 * i, none⟩ = some (.int .u8 0) := by rw [kr.cell]; exact byteCells_zero _ _ _ (by omega) (by omega)
            have z1 : wr.cell? ⟨w4.heap.size, 4 * i + 1, none⟩ = some (.int .u8 0) := by rw [kr.cell]; exact byteCells_zero _ _ _ (by omega) (by omega)
            have z2 : wr.cell? ⟨w4.heap.size, 4 * i + 2, none⟩ = some (.int .u8 0) := by rw [kr.cell]; exact byteCells_zero _ _ _ (by omega) (by omega)
            have z3 : wr.cell? ⟨w4.heap.size, 4 * i + 3, none⟩ = some (.int .u8 0) := by rw [kr.cell]; exact byteCells_zero _ _ _ (by omega) (by omega)
            have o0 : ((4 : Int) * (i : Int)).toNat = 4 * i := by omega
            have o1 : ((4 : Int) * (i : Int) + 1).toNat = 4 * i + 1 := by omega
            have o2 : ((4 : Int) * (i : Int) + 2).toNat = 4 * i + 2 := by omega
            have o3 : ((4 : Int) * (i : Int) + 3).toNat = 4 * i + 3 := by omega
            have fq := kr.free
            have Hkr := hid kr
            have Hbr := hid br
            clear kr br
            go_wp2_with fail
            refine ⟨⟨i + 1, by omega, by go_num, ?_, ?_⟩, by simp [intOf]; omega⟩
            · have := put_four Hkr.out hbl hlti X hxl
              rw [Hts.out, List.flatMap_append, toZ, List.map_append, List.flatMap_singleton]
              rw [← HL.out] at this
              exact this
            · have hB : w4.heap.size ≤ w4.heap.size := Nat.le_refl _
              exact (((Hbr.out.setCell (p := ⟨w4.heap.size, 4 * i, none⟩) hB _).setCell (p := ⟨w4.heap.size, 4 * i + 1, none⟩) hB _).setCell (p := ⟨w4.heap.size, 4 * i + 2, none⟩) hB _).setCell (p := ⟨w4.heap.size, 4 * i + 3, none⟩) hB _
          · have h8i : i = 8 := by omega
            have kfull : Blk wr w4.heap.size ((sumZ bs).map (Value.int .u8)).toArray 23 := by
              have e : toZ (((words sf).take i).flatMap (Sha.nbe 4)) = sumZ bs := by
                rw [Hsum.out, h8i, List.take_of_length_le (by simp [words]), out_words]
              rw [e, byteCells_full 32 _ (sumZ_length bs)] at kr
              exact kr
            have kres := HFA.out.res.below br
            have hfb := HFA.out.but.ext br
            have Hsz : Hid (((sumZ bs).map (Value.int .u8)).toArray.size = 32) := hid (by simp [sumZ_length])
            have Hzb : Hid ((byteCells 32 []).size = 32) := hid (byteCells_size 32 [] (by simp))
            have Hkf := hid kfull
            have Hkres := hid kres
            have Hfb := hid hfb
            have H8i := hid h8i
            clear kr br kfull kres hfb h8i
            go_wp2_with (first | (refine wpList_load_blk rfl 23 _ rfl w4.heap.size rfl _ 23 Hkf.out _ Tryd.underlying23 rfl 32 size_digest Hsz.out ?_) | (refine wpList_store_blk rfl 23 _ _ rfl w.heap.size _ rfl rfl _ 23 Hkres.out 32 size_digest Hzb.out Hsz.out (ints_one _ _) ?_; intro w6 hbut6 hk6))
            exact bodyPost_ret (v := .agg ((sumZ bs).map (Value.int .u8)).toArray) (results_blk Tryd.results80 _ w.heap.size rfl _ 23 hk6 _ Tryd.underlying23 rfl 32 size_digest Hsz.out) rfl ⟨rfl, Hfb.out.fresh hbut6 (Nat.le_refl _)⟩
  · have hz0 : (56 : Int) < (m : Int) + 1 := by omega
    go_enter Tryd.func80, Tryd.ntmps80
    go_wp2_with (with_reducible refine wpList_clear_hash rfl _ 29 rfl 5 Tryd.underlying29 Hz.out ph (m + 1) (63 - m) (63 - m) d rfl Hd.out _ _ _ T HF1.out.hash hR1 (by omega) ?_; intro w2 HB2 HK2)
    rw [← hR2d'.out] at HK2
    have HF2 : Hid (FinW ph T w (Sha.run Sha.start (natB bs) (bs.length / 64)) R2 bs.length w2) := hid (HF1.out.next HB2.out HK2.out hlt hp1 hp0)
    clear HB2 HK2 HF1
    refine wp_region_flow 7 [0, 1, 2, 3, 4, 5, 6] [] [] (by kernel_rfl) (by kernel_rfl) ?_
    apply Exists.intro
    refine ⟨fun w0 hb0 hF0 => ?_, ?_⟩
    · simp only [pick, List.getElem?_toArray, List.getElem?_cons_succ, List.getElem?_cons_zero, Option.toList_some, List.cons_append, List.nil_append]
      repeat (go_big_quiet_step (fail))
      exact wpQuiet_nil rfl
    refine AlChk.nil ?_
    refine Walk.fin fun w3 h3 _ _ => ?_
    simp only [List.drop_succ_cons, List.drop_zero]
    have HF9 := HF2.out.below h3
    have hk4 := HF9.hash
    go_wp2_with fail
    refine (process_any ph T _ (R2.map (Value.int .u8) ++ [.int .u64 (bs.length : Nat)]) (some ⟨ph, 8, none⟩) 64 R2 w3 (Ok.run Ok.start _ _) hk4 (hk4.hash_rest hR2 hR2s) HF9.tab hp1).mono ?_
    rintro e w5 ⟨rfl, b5, k5⟩
    have hFB := HF9.next b5 (st' := Sha.compress (Sha.run Sha.start (natB bs) (bs.length / 64)) (natB R2)) (R' := R2) k5 hlt hp1 hp0
    have HFB := hid hFB
    have ok3 : Ok (Sha.compress (Sha.run Sha.start (natB bs) (bs.length / 64)) (natB R2)) := Ok.compress _ _
    have Hsum : Hid (sumZ bs = toZ (Sha.out (Sha.compress (Sha.compress (Sha.run Sha.start (natB bs) (bs.length / 64)) (natB R2)) (natB ((List.replicate 64 0).take 56 ++ toZ (Sha.nbe 8 (8 * bs.length))))))) := hid (by
      have hnl : (natB bs).length = bs.length := by simp [natB]
      have hb := Hbl.out
      have eA : natB R2 = (natB bs).drop (64 * (bs.length / 64)) ++ 128 :: List.replicate (63 - m) 0 := by
        rw [HR2e.out]
        simp [natB]
      have eB : natB ((List.replicate 64 (0 : Int)).take 56 ++ toZ (Sha.nbe 8 (8 * bs.length))) = List.replicate 56 0 ++ Sha.nbe 8 (8 * bs.length) := by
        have e2 : natB (toZ (Sha.nbe 8 (8 * bs.length))) = Sha.nbe 8 (8 * bs.length) := natB_toZ _
        rw [List.take_replicate, Nat.min_eq_left (by decide)]
        unfold natB at *
        rw [List.map_append, e2, List.map_replicate]
        rfl
      unfold sumZ
      rw [sum_long (natB bs) (bs.length / 64) m (by rw [hnl]; exact hb) (by omega) hm64, hnl, eA, eB])
    generalize Sha.compress (Sha.run Sha.start (natB bs) (bs.length / 64)) (natB R2) = st3 at *
    clear hk4 HF9 b5 k5 h3 hFB HF2 HR2e
    go_wp2_with (with_reducible refine wpList_clear_hash rfl _ 29 rfl 5 Tryd.underlying29 Hz.out ph 0 64 64 (some ⟨ph, 8, none⟩) rfl (fun _ => rfl) _ _ _ T HFB.out.hash hR2 (by omega) ?_; intro w2 HB2 HK2)
    have hR3d : splice R2 0 (List.replicate 64 0) = List.replicate 64 0 := by simp [splice, hR2]
    rw [hR3d] at HK2
    have HF3 : Hid (FinW ph T w st3 (List.replicate 64 0) bs.length w2) := hid (HFB.out.next HB2.out HK2.out hlt hp1 hp0)
    have hR3 : (List.replicate 64 (0 : Int)).length = 64 := by simp
    have hR3s : ∀ x ∈ List.replicate 64 (0 : Int), 0 ≤ x ∧ x < 256 := fun x hx => by have := List.eq_of_mem_replicate hx; omega
    generalize List.replicate 64 (0 : Int) = R3 at *
    clear HB2 HK2 HFB hR3d
    go_loopw [46] (fun v wr => ∃ j : Nat, j ≤ 8 ∧ v = .int .i64 j ∧ FinW ph T w st3 (R3.take (64 - j) ++ toZ (Sha.nbe j (8 * bs.length))) bs.length wr) (fun v _ => 8 - (intOf v).toNat)
    case atStart =>
      refine ⟨0, by omega, rfl, ?_⟩
      rw [List.take_of_length_le (show R3.length ≤ 64 - 0 by omega), show toZ (Sha.nbe 0 (8 * bs.length)) = [] from rfl, List.append_nil]
      exact HF3.out
    case round =>
      obtain ⟨j, hj, rfl, hF⟩ := hrel
      by_cases hlt8 : j < 8
      · have hRj : (R3.take (64 - j) ++ toZ (Sha.nbe j (8 * bs.length))).length = 64 := by
          rw [List.length_append, List.length_take, toZ, List.length_map, nbe_length]; omega
        have q := (hF.hash.cell (8 + (63 - j))).trans (hashCells_rest _ _ _ (63 - j) hRj (by omega))
        have f1 := hF.hash.free
        have hlt2 := hF.hash.lt
        have HF := hid hF
        have e1 : ((63 : Int) - (j : Int)).toNat = 63 - j := by omega
        have e2 : ((8 : Int) * (j : Int)).toNat = 8 * j := by omega
        generalize (R3.take (64 - j) ++ toZ (Sha.nbe j (8 * bs.length))).getD (63 - j) 0 = old at q
        clear hF
        go_wp2_with fail
        refine wp_region_flow 11 [0, 1, 2, 3, 4, 5, 6, 7, 8, 9, 10] [] [] (by kernel_rfl) (by kernel_rfl) ?_
        apply Exists.intro
        refine ⟨fun w0 hb0 hF0 => ?_, ?_⟩
        · simp only [pick, List.getElem?_toArray, List.getElem?_cons_succ, List.getElem?_cons_zero, Option.toList_some, List.cons_append, List.nil_append]
          repeat (go_big_quiet_step (fail))
          exact wpQuiet_nil rfl
        refine AlChk.nil ?_
        refine Walk.fin fun w3 h3 _ _ => ?_
        simp only [List.drop_succ_cons, List.drop_zero]
        have HF3' := hid (HF.out.below h3)
        have q3 := (h3.cell (p := ⟨ph, 8 + (63 - j), none⟩) hlt2).trans q
        have f3 := HF3'.out.hash.free
        clear q f1 h3 HF
        go_wp2_with fail
        have hv : ((bs.length : Int) * 8 / 2 ^ (8 * j) % 256) = ((8 * bs.length / 256 ^ j % 256 : Nat) : Int) := by
          have hp : (2 : Int) ^ (8 * j) = ((256 ^ j : Nat) : Int) := by
            rw [show 256 ^ j = 2 ^ (8 * j) by rw [Nat.pow_mul], Int.natCast_pow]
            rfl
          rw [hp, Int.natCast_emod, Int.natCast_ediv, Int.natCast_mul, Int.mul_comm]
          rfl
        refine ⟨⟨j + 1, by omega, by go_num, HF3'.out.next ((But.of (Below.refl _ _)).set (p := ⟨ph, 8 + (63 - j), none⟩) (.inl rfl) _) ?_ hlt hp1 hp0⟩, by simp [intOf]; omega⟩
        have hk9 := HF3'.out.hash.hash_put hRj (63 - j) [((bs.length : Int) * 8 / 2 ^ (8 * j) % 256)] (by rw [List.length_singleton]; omega)
        rw [put_byte R3 hR3 _ j hlt8 _ hv] at hk9
        rw [show 64 - (j + 1) = 63 - j by omega]
        exact hk9
      · have h8 : j = 8 := by omega
        have hF8 : FinW ph T w st3 (R3.take 56 ++ toZ (Sha.nbe 8 (8 * bs.length))) bs.length wr := by
          rw [h8] at hF; exact hF
        have HF8 := hid hF8
        have hR8 : (R3.take 56 ++ toZ (Sha.nbe 8 (8 * bs.length))).length = 64 := by
          rw [List.length_append, List.length_take, toZ, List.length_map, nbe_length]; omega
        have hR8s : ∀ x ∈ R3.take 56 ++ toZ (Sha.nbe 8 (8 * bs.length)), 0 ≤ x ∧ x < 256 := fun x hx => by
          rcases List.mem_append.1 hx with h | h
          · exact hR3s x (List.mem_of_mem_take h)
          · exact toZ_small (nbe_lt _ _) x h
        generalize hR9 : R3.take 56 ++ toZ (Sha.nbe 8 (8 * bs.length)) = R9 at *
        have H8 := hid h8
        clear hF hF8 h8
        go_wp2_with fail
        refine wp_region_flow 7 [0, 1, 2, 3, 4, 5, 6] [] [] (by kernel_rfl) (by kernel_rfl) ?_
        apply Exists.intro
        refine ⟨fun w0 hb0 hF0 => ?_, ?_⟩
        · simp only [pick, List.getElem?_toArray, List.getElem?_cons_succ, List.getElem?_cons_zero, Option.toList_some, List.cons_append, List.nil_append]
          repeat (go_big_quiet_step (fail))
          exact wpQuiet_nil rfl
        refine AlChk.nil ?_
        refine Walk.fin fun w3 h3 _ _ => ?_
        simp only [List.drop_succ_cons, List.drop_zero]
        have HF9 := HF8.out.below h3
        have hk4 := HF9.hash
        go_wp2_with fail
        refine (process_any ph T _ (R9.map (Value.int .u8) ++ [.int .u64 (bs.length : Nat)]) (some ⟨ph, 8, none⟩) 64 R9 w3 ok3 hk4 (hk4.hash_rest hR8 hR8s) HF9.tab hp1).mono ?_
        rintro e w4 ⟨rfl, b4, k4⟩
        have hFA := HF9.next b4 (st' := Sha.compress st3 (natB R9)) (R' := R9) k4 hlt hp1 hp0
        have okA : Ok (Sha.compress st3 (natB R9)) := Ok.compress _ _
        generalize Sha.compress st3 (natB R9) = sf at *
        have HFA := hid hFA
        have g0 : w4.cell? ⟨ph, 0, none⟩ = some (.int .u32 sf.a) := (hFA.hash.cell 0).trans rfl
        have g1 : w4.cell? ⟨ph, 1, none⟩ = some (.int .u32 sf.b) := (hFA.hash.cell 1).trans rfl
        have g2 : w4.cell? ⟨ph, 2, none⟩ = some (.int .u32 sf.c) := (hFA.hash.cell 2).trans rfl
        have g3 : w4.cell? ⟨ph, 3, none⟩ = some (.int .u32 sf.d) := (hFA.hash.cell 3).trans rfl
        have g4 : w4.cell? ⟨ph, 4, none⟩ = some (.int .u32 sf.e) := (hFA.hash.cell 4).trans rfl
        have g5 : w4.cell? ⟨ph, 5, none⟩ = some (.int .u32 sf.f) := (hFA.hash.cell 5).trans rfl
        have g6 : w4.cell? ⟨ph, 6, none⟩ = some (.int .u32 sf.g) := (hFA.hash.cell 6).trans rfl
        have g7 : w4.cell? ⟨ph, 7, none⟩ = some (.int .u32 sf.h) := (hFA.hash.cell 7).trans rfl
        have hlt4 := hFA.hash.lt
        have hres4 := hFA.res.lt
        have kd := Blk.new (w := w4) rfl (byteCells 32 []) 23
        have Hkd := hid kd
        clear hk4 HF9 b4 k4 h3 hFA kd
        go_wp2_with fail
        clear g0 g1 g2 g3 g4 g5 g6 g7
        go_loopw [73] (fun v wq => ∃ i : Nat, i ≤ 8 ∧ v = .int .i64 i ∧ Blk wq w4.heap.size (byteCells 32 (toZ (((words sf).take i).flatMap (Sha.nbe 4)))) 23 ∧ Below w4.heap.size w4 wq) (fun v _ => 8 - (intOf v).toNat)
        case atStart => exact ⟨0, by omega, rfl, Hkd.out, (Below.refl _ _).alloc (Nat.le_refl _) _⟩
        case round =>
          obtain ⟨i, hi, rfl, kr, br⟩ := hrel
          by_cases hlti : i < 8
          · have hix : ∀ W, (Instr.index 112 (.agg #[.int .u32 sf.a, .int .u32 sf.b, .int .u32 sf.c, .int .u32 sf.d, .int .u32 sf.e, .int .u32 sf.f, .int .u32 sf.g, .int .u32 sf.h]) (.int .i64 i)).run Tryd.prog W = .ok (.int .u32 ((toZ (words sf)).getD i 0)) W := fun W => run_index_ints (P := Tryd.prog) (e := 103) (n := 8) (by kernel_rfl) (by kernel_rfl) rfl rfl (toZ (words sf)) rfl i hlti W
            have hx : (toZ (words sf)).getD i 0 = (((words sf).getD i 0 : Nat) : Int) := by
              have : i < (words sf).length := hlti
              simp [toZ, this]
            have hxl : (words sf).getD i 0 < 4294967296 := words_lt okA i
            rw [hx] at hix
            have hts : (words sf).take (i + 1) = (words sf).take i ++ [(words sf).getD i 0] := by
              have : i < (words sf).length := hlti
              rw [List.take_succ_eq_append_getElem this]
              simp [this]
            have Hts := hid hts
            clear hx hts
            generalize (words sf).getD i 0 = X at *
            have hbl : (toZ (((words sf).take i).flatMap (Sha.nbe 4))).length = 4 * i := by
              rw [toZ, List.length_map, flat_len, List.length_take, Nat.min_eq_left (show i ≤ (words sf).length from Nat.le_of_lt hlti)]
            generalize hLd : toZ (((words sf).take i).flatMap (Sha.nbe 4)) = L at *
            have HL := hid hLd
            clear hLd
            have z0 : wr.cell? ⟨w4.heap.size, 4 * i, none⟩ = some (.int .u8 0) := by rw [kr.cell]; exact byteCells_zero _ _ _ (by omega) (by omega)
            have z1 : wr.cell? ⟨w4.heap.size, 4 * i + 1, none⟩ = some (.int .u8 0) := by rw [kr.cell]; exact byteCells_zero _ _ _ (by omega) (by omega)
            have z2 : wr.cell? ⟨w4.heap.size, 4 * i + 2, none⟩ = some (.int .u8 0) := by rw [kr.cell]; exact byteCells_zero _ _ _ (by omega) (by omega)
            have z3 : wr.cell? ⟨w4.heap.size, 4 * i + 3, none⟩ = some (.int .u8 0) := by rw [kr.cell]; exact byteCells_zero _ _ _ (by omega) (by omega)
            have o0 : ((4 : Int) * (i : Int)).toNat = 4 * i := by omega
            have o1 : ((4 : Int) * (i : Int) + 1).toNat = 4 * i + 1 := by omega
            have o2 : ((4 : Int) * (i : Int) + 2).toNat = 4 * i + 2 := by omega
            have o3 : ((4 : Int) * (i : Int) + 3).toNat = 4 * i + 3 := by omega
            have fq := kr.free
            have Hkr := hid kr
            have Hbr := hid br
            clear kr br
            go_wp2_with fail
            refine ⟨⟨i + 1, by omega, by go_num, ?_, ?_⟩, by simp [intOf]; omega⟩
            · have := put_four Hkr.out hbl hlti X hxl
              rw [Hts.out, List.flatMap_append, toZ, List.map_append, List.flatMap_singleton]
              rw [← HL.out] at this
              exact this
            · have hB : w4.heap.size ≤ w4.heap.size := Nat.le_refl _
              exact (((Hbr.out.setCell (p := ⟨w4.heap.size, 4 * i, none⟩) hB _).setCell (p := ⟨w4.heap.size, 4 * i + 1, none⟩) hB _).setCell (p := ⟨w4.heap.size, 4 * i + 2, none⟩) hB _).setCell (p := ⟨w4.heap.size, 4 * i + 3, none⟩) hB _
          · have h8i : i = 8 := by omega
            have kfull : Blk wr w4.heap.size ((sumZ bs).map (Value.int .u8)).toArray 23 := by
              have e : toZ (((words sf).take i).flatMap (Sha.nbe 4)) = sumZ bs := by
                rw [Hsum.out, h8i, List.take_of_length_le (by simp [words]), out_words]
              rw [e, byteCells_full 32 _ (sumZ_length bs)] at kr
              exact kr
            have kres := HFA.out.res.below br
            have hfb := HFA.out.but.ext br
            have Hsz : Hid (((sumZ bs).map (Value.int .u8)).toArray.size = 32) := hid (by simp [sumZ_length])
            have Hzb : Hid ((byteCells 32 []).size = 32) := hid (byteCells_size 32 [] (by simp))
            have Hkf := hid kfull
            have Hkres := hid kres
            have Hfb := hid hfb
            have H8i := hid h8i
            clear kr br kfull kres hfb h8i
            go_wp2_with (first | (refine wpList_load_blk rfl 23 _ rfl w4.heap.size rfl _ 23 Hkf.out _ Tryd.underlying23 rfl 32 size_digest Hsz.out ?_) | (refine wpList_store_blk rfl 23 _ _ rfl w.heap.size _ rfl rfl _ 23 Hkres.out 32 size_digest Hzb.out Hsz.out (ints_one _ _) ?_; intro w6 hbut6 hk6))
            exact bodyPost_ret (v := .agg ((sumZ bs).map (Value.int .u8)).toArray) (results_blk Tryd.results80 _ w.heap.size rfl _ 23 hk6 _ Tryd.underlying23 rfl 32 size_digest Hsz.out) rfl ⟨rfl, Hfb.out.fresh hbut6 (Nat.le_refl _)⟩
end Go.Proofs.YtkakoiaahgchmaaDoor
namespace Go.Proofs.YtkakoiaahgchmaaDoor
set_option maxRecDepth 100000
open Go.ChangeShapes Go.WideShapes Go.ChangeAt Go.RowKit
theorem size_hash : (Tryd.prog.info? 116).map (·.size) = some 73 := by kernel_rfl
/-- the cells of a new hash -/
def newHash : Array Value := (hashCells Sha.start (List.replicate 64 0) 0).toArray
set_option maxHeartbeats 2000000 in
theorem begin_any (w : World) (tab : ShaTab w) : Calls Tryd.prog 78 #[] w fun e w' => e = .returned (.agg newHash) ∧ Below w.heap.size w w' := by
  have hlt := tab.lt0
  obtain ⟨g0, g1, g2, g3, g4, g5, g6, g7⟩ := tab.start
  have HZ : Hid (Tryd.zeroCells116.size = 73) := hid (by kernel_rfl)
  have HN : Hid (newHash.size = 73) := hid (hashCells_size _ _ _ (by simp))
  go_enter Tryd.func78, Tryd.ntmps78
  go_wp2_with (refine wpList_store_blk rfl 116 _ _ rfl w.heap.size newHash rfl (by kernel_rfl) Tryd.zeroCells116 116 (Blk.new rfl _ _) 73 size_hash HZ.out HN.out (by kernel_rfl) ?_; intro w2 hb2 hk2)
  exact bodyPost_ret (v := .agg newHash) (results_blk Tryd.results78 _ w.heap.size rfl _ 116 hk2 _ Tryd.underlying116 rfl 73 size_hash HN.out) rfl ⟨rfl, hb2.below ((Below.refl _ _).alloc (Nat.le_refl _) _) (by rw [World.size_alloc]; omega) (Nat.le_refl _)⟩
end Go.Proofs.YtkakoiaahgchmaaDoor
namespace Go.Proofs.YtkakoiaahgchmaaDoor
set_option maxRecDepth 100000
open Go.ChangeShapes Go.WideShapes Go.ChangeAt Go.RowKit
theorem hash_new {w : World} {ph : Nat} {T : TypeId} (h : Blk w ph newHash T) : HashAt w ph T [] :=
  ⟨by simp, List.replicate 64 0, by simp, fun x hx => by have := List.eq_of_mem_replicate hx; omega, by simp, h⟩
set_option maxHeartbeats 4000000 in
theorem sum_any (a : Option Addr) (len cap : Nat) (ts : List (List Int)) (w : World) (hT : TextsAt w a len cap ts) (hbnd : sumLen ts < 1152921504606846976) (tab : ShaTab w) :
    Calls Tryd.prog 59 #[.slice a len cap] w fun e w' => e = .returned (.agg ((sumZ ts.flatten).map (Value.int .u8)).toArray) ∧ Below w.heap.size w w' := by
  have hlen : ts.length = len := hT.length
  have hcp := hT.le
  have hmx := hT.max
  have hlt1 := tab.lt
  have hlt0 := tab.lt0
  have HT := hid hT
  have Htab := hid tab
  have HN : Hid (newHash.size = 73) := hid (hashCells_size _ _ _ (by simp))
  have HZ : Hid (Tryd.zeroCells116.size = 73) := hid (by kernel_rfl)
  have H1 : Hid (newHash.all (·.oneCell') = true) := hid (by kernel_rfl)
  clear hT tab
  go_enter Tryd.func59, Tryd.ntmps59
  go_wp2_with fail
  refine (begin_any _ (Htab.out.below ((Below.refl _ _).alloc (Nat.le_refl _) _))).mono ?_
  rintro e w1 ⟨rfl, b1⟩
  have hs1 : w.heap.size < w1.heap.size := by have := b1.size; rw [World.size_alloc] at this; omega
  have kr1 := (Blk.new (w := w) rfl (byteCells 32 []) 23).below b1
  have bel1 : Below w.heap.size w w1 := Below.on ((Below.refl w.heap.size w).alloc (Nat.le_refl _) _) b1
  have Hkr1 := hid kr1
  have Hbel1 := hid bel1
  clear b1 kr1 bel1
  go_wp2_with (refine wpList_store_blk rfl 116 _ _ rfl w1.heap.size newHash rfl rfl Tryd.zeroCells116 116 (Blk.new rfl _ _) 73 size_hash HZ.out HN.out H1.out ?_; intro w2 hb2 hk2)
  have bel2 : Below w.heap.size w w2 := hb2.below (Hbel1.out.alloc (by omega) _) (by rw [World.size_alloc]; omega) (by omega)
  have kr2 : Blk w2 w.heap.size (byteCells 32 []) 23 := hb2.blk (Hkr1.out.old _) (by omega)
  have hh2 := hash_new hk2
  have hph : w.heap.size < w1.heap.size := hs1
  generalize w1.heap.size = ph at *
  have Hh2 := hid hh2
  have Hkr2 := hid kr2
  have Hbel2 := hid bel2
  clear hb2 hk2 bel2 kr2 hh2 Hkr1 Hbel1 HZ HN H1
  go_loopw [9] (fun v wr => ∃ k : Nat, k ≤ len ∧ v = .int .i64 k ∧ HashAt wr ph 116 (ts.take k).flatten ∧ Below w.heap.size w wr ∧ Blk wr w.heap.size (byteCells 32 []) 23) (fun v _ => len - (intOf v).toNat)
  case atStart => exact ⟨0, by omega, rfl, by simpa using Hh2.out, Hbel2.out, Hkr2.out⟩
  case round =>
    obtain ⟨k, hk, rfl, hh, bel, kr⟩ := hrel
    have Hh := hid hh
    have Hbel := hid bel
    have Hkr := hid kr
    clear hh bel kr
    by_cases hlt : k < len
    · obtain ⟨r, off, a', l', c', rfl, hrl, hc, hTk⟩ := HT.out.at_ k hlt
      have hcw : wr.cell? ⟨r, off + k, none⟩ = some (.slice a' l' c') := (Hbel.out.cell (p := ⟨r, off + k, none⟩) hrl).trans hc
      have hTw := hTk.below Hbel.out
      have hne : 0 < l' → ∀ p : Addr, a' = some p → p.block ≠ ph := hTk.ne (by omega)
      have HTw := hid hTw
      have Hne := hid hne
      have HF := hid (flatten_take ts k (by omega))
      have hsl : (ts.take k).flatten.length + l' < 1152921504606846976 := by
        have e1 := sumLen_take ts k (by omega)
        have e2 := sumLen_le ts (k + 1)
        have e3 := flatten_length (ts.take k)
        have e4 := hTk.length
        omega
      clear hTk hTw hne hc
      go_wp2_with fail
      refine (add_any ph 116 _ a' l' c' _ wr Hh.out HTw.out hsl Hne.out (Htab.out.below Hbel.out) (by omega) (by omega)).mono ?_
      rintro e w4 ⟨rfl, b4, h4⟩
      have Hn : Hid (HashAt w4 ph 116 (ts.take (k + 1)).flatten ∧ Below w.heap.size w w4 ∧ Blk w4 w.heap.size (byteCells 32 []) 23) := hid ⟨by rw [HF.out]; exact h4, b4.below Hbel.out Hbel.out.size (by omega), b4.blk Hkr.out (by omega)⟩
      clear b4 h4 HTw Hne
      go_wp2_with fail
      exact ⟨⟨k + 1, by omega, by go_num, Hn.out.1, Hn.out.2.1, Hn.out.2.2⟩, by simp [intOf]; omega⟩
    · have hkl : k = len := by omega
      have hft : (ts.take k).flatten = ts.flatten := by rw [List.take_of_length_le (by omega)]
      rw [hft] at Hh
      have Hkl := hid hkl
      clear hkl hft
      have hfl := flatten_length ts
      go_wp2_with fail
      refine (finish_any ph 116 _ wr Hh.out (by omega) (Htab.out.below Hbel.out) (by omega) (by omega)).mono ?_
      rintro e w4 ⟨rfl, b4⟩
      have bel4 := b4.below Hbel.out Hbel.out.size (by omega)
      have kr4 := b4.blk Hkr.out (show w.heap.size ≠ ph by omega)
      have Hsz : Hid (((sumZ ts.flatten).map (Value.int .u8)).toArray.size = 32) := hid (by simp [sumZ_length])
      have Hzb : Hid ((byteCells 32 []).size = 32) := hid (byteCells_size 32 [] (by simp))
      have Hbel4 := hid bel4
      have Hkr4 := hid kr4
      clear b4 bel4 kr4 Hbel Hkr
      go_wp2_with (refine wpList_store_blk rfl 23 _ _ rfl w.heap.size _ rfl rfl _ 23 Hkr4.out 32 size_digest Hzb.out Hsz.out (ints_one _ _) ?_; intro w6 hbut6 hk6)
      exact bodyPost_ret (v := .agg ((sumZ ts.flatten).map (Value.int .u8)).toArray) (results_blk Tryd.results59 _ w.heap.size rfl _ 23 hk6 _ Tryd.underlying23 rfl 32 size_digest Hsz.out) rfl ⟨rfl, hbut6.below Hbel4.out Hbel4.out.size (Nat.le_refl _)⟩
end Go.Proofs.YtkakoiaahgchmaaDoor
namespace Go.Proofs.YtkakoiaahgchmaaDoor
set_option maxRecDepth 100000
open Go.ChangeShapes Go.WideShapes Go.ChangeAt Go.RowKit
theorem toZ_natB {bs : List Int} (h : ∀ x ∈ bs, 0 ≤ x ∧ x < 256) : toZ (natB bs) = bs := by
  induction bs with
  | nil => rfl
  | cons x bs ih =>
    have hx := h x (by simp)
    have := ih fun y hy => h y (by simp [hy])
    unfold toZ natB at *
    rw [List.map_cons, List.map_cons, this, Int.toNat_of_nonneg hx.1]
set_option maxHeartbeats 8000000 in
theorem padded_any (a : Option Addr) (len cap : Nat) (bs : List Int) (w : World) (hT : TextAt w a len cap bs) (hbnd : len ≤ 140737488350000) :
    Calls Tryd.prog 69 #[.slice a len cap] w fun e w' => ∃ v, e = .returned v ∧ OwnB w' w.heap.size 5 v (toZ (Sha.pad (natB bs))) ∧ Below w.heap.size w w' := by
  have hlen := hT.length
  have hle := hT.le
  have hmx := hT.max
  have kE : OwnB (w.alloc (Obj.cells #[] 5)) w.heap.size 5 (.slice (some ⟨w.heap.size, 0, none⟩) 0 0) [] := OwnB.of_blk (Blk.new rfl _ _) (Nat.le_refl _) rfl (by omega) (by simp)
  have belE : Below w.heap.size w (w.alloc (Obj.cells #[] 5)) := (Below.refl _ _).alloc (Nat.le_refl _) _
  have hTE := hT.below belE
  have HkE := hid kE
  have HbE := hid belE
  have HTE := hid hTE
  have HT := hid hT
  have Hlen := hid hlen
  clear hT kE belE hTE
  obtain ⟨i0, hi, hz0, hz1, hz2⟩ := info_parts info_byte
  go_enter Tryd.func69, Tryd.ntmps69
  go_wp2_with (at_builtin; refine wpList_append_text rfl (.tmp 8) (.tmp 9) rfl Tryd.underlying29 hi hz0 hz1 hz2 rfl HkE.out rfl HTE.out ?c1 ?c2 ?_)
  case c1 => simp; omega
  case c2 => exact HbE.out.size
  intro v1 w1 own1 g1 b1
  have bel1 := HbE.out.trans b1
  have own1' := own1.below ((Below.refl w1.heap.size w1).alloc (Nat.le_refl _) (Obj.cells #[.int .u8 128] 5))
  have kT : TextAt (w1.alloc (Obj.cells #[.int .u8 128] 5)) (some ⟨w1.heap.size, 0, none⟩) 1 1 [128] := TextAt.of_ints (T := 5) (Blk.new rfl _ _) rfl (by omega) (by simp)
  have bel1' := bel1.alloc bel1.size (Obj.cells #[.int .u8 128] 5)
  have Hown1 := hid own1'
  have HkT := hid kT
  have Hbel1 := hid bel1'
  clear own1 own1' g1 b1 bel1 bel1' kT
  go_wp2_with (at_builtin; refine wpList_append_text rfl (.tmp 10) (.tmp 11) rfl Tryd.underlying29 hi hz0 hz1 hz2 rfl Hown1.out rfl HkT.out ?c1 ?c2 ?_)
  case c1 => simp; omega
  case c2 => exact Hbel1.out.size
  intro v2 w2 own2 g2 b2
  have Hbel2 := hid (Hbel1.out.trans b2)
  have Hown2 : Hid (OwnB w2 w.heap.size 5 v2 (bs ++ 128 :: List.replicate 0 0)) := hid (by simpa using own2)
  clear own2 g2 b2 HkT Hown1 Hbel1
  go_wp2_with fail
  go_loopw [3] (fun v wr => ∃ z : Nat, z ≤ Sha.zerosFor bs.length ∧ OwnB wr w.heap.size 5 v (bs ++ 128 :: List.replicate z 0) ∧ Below w.heap.size w wr) (fun v _ => bs.length + 200 - sliceLen v)
  case atStart => exact ⟨0, Nat.zero_le _, Hown2.out, Hbel2.out⟩
  case round =>
    obtain ⟨z, hz, hown, bel⟩ := hrel
    obtain ⟨ao, co, rfl, hTo, _⟩ := hown.text
    have Hl : Hid ((bs ++ 128 :: List.replicate z (0 : Int)).length = len + 1 + z) := hid (by rw [List.length_append, List.length_cons, List.length_replicate, Hlen.out]; omega)
    have hzf : z < 64 := by unfold Sha.zerosFor at hz; omega
    have Hz := hid hz
    rw [Hl.out] at hown hTo
    rw [Hl.out]
    have hco := hTo.le
    have hmo := hTo.max
    have Hown := hid hown
    have Hbel := hid bel
    have hszw := bel.size
    clear hown bel hz hTo
    by_cases hq : (len + 1 + z) % 64 = 56
    · have hq2 : (((len : Int) + 1 + (z : Int)) % 64) = 56 := by omega
      have hzz : z = Sha.zerosFor bs.length := by
        have := Hz.out
        have := Hlen.out
        unfold Sha.zerosFor at *
        omega
      have Hzz := hid hzz
      clear hzz
      have kN : OwnB (wr.alloc (Obj.cells #[.int .u8 ((len : Int) % 32 * 8)] 5)) wr.heap.size 5 (.slice none 0 0) [] := OwnB.nil _ _ _
      have kT : TextAt (wr.alloc (Obj.cells #[.int .u8 ((len : Int) % 32 * 8)] 5)) (some ⟨wr.heap.size, 0, none⟩) 1 1 [(len : Int) % 32 * 8] := TextAt.of_ints (T := 5) (Blk.new rfl _ _) rfl (by omega) (by simp; omega)
      have belN := (Below.refl wr.heap.size wr).alloc (Nat.le_refl _) (Obj.cells #[.int .u8 ((len : Int) % 32 * 8)] 5)
      have HkN := hid kN
      have HkT := hid kT
      have HbN := hid belN
      clear kN kT belN
      go_wp2_with (at_builtin; refine wpList_append_text rfl (.tmp 27) (.tmp 30) rfl Tryd.underlying29 hi hz0 hz1 hz2 rfl HkN.out rfl HkT.out ?c1 ?c2 ?_)
      case c1 => simp
      case c2 => exact HbN.out.size
      intro v3 w3 own3 g3 b3
      have hb3 := HbN.out.trans b3
      have own3' : OwnB w3 wr.heap.size 5 v3 (toZ (Sha.nbe 1 (8 * bs.length))) := by
        have e : toZ (Sha.nbe 1 (8 * bs.length)) = [(len : Int) % 32 * 8] := by
          have := Hlen.out
          simp only [Sha.nbe, toZ, List.nil_append, List.map_cons, List.map_nil, this]
          congr 1
          omega
        rw [e]; simpa using own3
      have Hb3 := hid hb3
      have Ho3 := hid own3'
      clear own3 own3' g3 b3 hb3 HkN HkT HbN
      generalize wr = wo at *
      go_wp2_with fail
      go_loopw [4, 5, 7] (fun n v i wq => ∃ k : Nat, k ≤ 7 ∧ i = .int .i64 k ∧ n = .int .i64 ((8 * len / 256 ^ (k + 1) : Nat)) ∧ OwnB wq wo.heap.size 5 v (toZ (Sha.nbe (k + 1) (8 * bs.length))) ∧ Below wo.heap.size wo wq) (fun _ _ i _ => 7 - (intOf i).toNat)
      case atStart => exact ⟨0, by omega, rfl, congrArg (Value.int .i64) (by omega), Ho3.out, Hb3.out⟩
      case round =>
        obtain ⟨k, hk, rfl, rfl, hown, bel⟩ := hrel
        obtain ⟨at_, ct, rfl, hTt, _⟩ := hown.text
        have Hl2 : Hid ((toZ (Sha.nbe (k + 1) (8 * bs.length))).length = k + 1) := hid (by rw [toZ, List.length_map, nbe_length])
        rw [Hl2.out] at hown hTt
        rw [Hl2.out]
        have hct := hTt.le
        have hmt := hTt.max
        have Hq : Hid (8 * len / 256 ^ (k + 1) / 256 = 8 * len / 256 ^ (k + 1 + 1)) := hid (by rw [Nat.div_div_eq_div_mul, ← Nat.pow_succ])
        have HNB : Hid (toZ (Sha.nbe (k + 1 + 1) (8 * bs.length)) = ((8 * len / 256 ^ (k + 1) % 256 : Nat) : Int) :: toZ (Sha.nbe (k + 1) (8 * bs.length))) := hid (by
          rw [nbe_succ (k + 1), Hlen.out]
          rfl)
        have hqb : 8 * len / 256 ^ (k + 1) < 1125899906842624 := Nat.lt_of_le_of_lt (Nat.div_le_self _ _) (by omega)
        generalize 8 * len / 256 ^ (k + 1) = q at *
        by_cases hlt : k < 7
        · have kN : OwnB (wr.alloc (Obj.cells #[.int .u8 ((q : Int) % 256)] 5)) wo.heap.size 5 (.slice (some ⟨wr.heap.size, 0, none⟩) 1 1) [(q : Int) % 256] :=
            OwnB.of_blk (Blk.new rfl _ _) bel.size rfl (by omega) (by simp; omega)
          have belN := bel.alloc bel.size (Obj.cells #[.int .u8 ((q : Int) % 256)] 5)
          have hTN := hTt.below ((Below.refl _ _).alloc (Nat.le_refl _) (Obj.cells #[.int .u8 ((q : Int) % 256)] 5))
          have HkN := hid kN
          have HbN := hid belN
          have HTN := hid hTN
          clear kN belN hTN hTt hown bel
          go_wp2_with (at_builtin; refine wpList_append_text rfl (.tmp 39) (.tmp 40) rfl Tryd.underlying29 hi hz0 hz1 hz2 rfl HkN.out rfl HTN.out ?c1 ?c2 ?_)
          case c1 => simp; omega
          case c2 => exact HbN.out.size
          intro v5 w5 own5 g5 b5
          have H5 : Hid (OwnB w5 wo.heap.size 5 v5 (toZ (Sha.nbe (k + 1 + 1) (8 * bs.length))) ∧ Below wo.heap.size wo w5) := hid ⟨by rw [HNB.out, Hlen.out]; simpa using own5, HbN.out.trans b5⟩
          clear own5 g5 b5 HkN HbN HTN
          go_wp2_with fail
          exact ⟨⟨k + 1, by omega, by go_num, congrArg (Value.int .i64) (by rw [← Hq.out]; omega), H5.out.1, H5.out.2⟩, by simp [intOf]; omega⟩
        · have h7 : k = 7 := by omega
          have Ht7 : Hid (TextAt wr at_ 8 ct (toZ (Sha.nbe 8 (8 * bs.length)))) := hid (by rw [h7] at hTt; exact hTt)
          have hk1 : k + 1 = 8 := by omega
          rw [hk1]
          have Ho := hid (Hown.out.below bel)
          have Hb := hid (Hbel.out.trans (bel.mono hszw))
          have hsz2 := Hb.out.size
          have H7 := hid h7
          clear hTt hown bel h7 hk1
          go_wp2_with (at_builtin; refine wpList_append_text rfl (.tmp 44) (.tmp 45) rfl Tryd.underlying29 hi hz0 hz1 hz2 rfl Ho.out rfl Ht7.out ?c1 ?c2 ?_)
          case c1 => rw [List.length_append, List.length_cons, List.length_replicate]; have := Hlen.out; omega
          case c2 => exact hsz2
          intro v5 w5 own5 g5 b5
          have H5 : Hid (OwnB w5 w.heap.size 5 v5 (toZ (Sha.pad (natB bs))) ∧ Below w.heap.size w w5) := hid (by
            refine ⟨?_, Hb.out.trans b5⟩
            have hpos := HT.out.small
            have hnl : (natB bs).length = bs.length := by simp [natB]
            have eb : toZ (natB bs) = bs := toZ_natB hpos
            have e : toZ (Sha.pad (natB bs)) = (bs ++ 128 :: List.replicate z 0) ++ toZ (Sha.nbe 8 (8 * bs.length)) := by
              rw [Sha.pad, hnl, Hzz.out]
              unfold toZ at *
              rw [List.map_append, eb, List.map_cons, List.map_append, List.map_replicate]
              simp
            rw [e, Hlen.out, List.append_assoc, List.cons_append]
            exact own5)
          clear own5 g5 b5 Ho Hb Ht7
          go_wp2_with fail
          go_ret
          exact ⟨_, rfl, H5.out⟩
    · have hq2 : ¬ (((len : Int) + 1 + (z : Int)) % 64) = 56 := by omega
      have own' := Hown.out.below ((Below.refl wr.heap.size wr).alloc (Nat.le_refl _) (Obj.cells #[.int .u8 0] 5))
      have kT : TextAt (wr.alloc (Obj.cells #[.int .u8 0] 5)) (some ⟨wr.heap.size, 0, none⟩) 1 1 [0] := TextAt.of_ints (T := 5) (Blk.new rfl _ _) rfl (by omega) (by simp)
      have bel' := Hbel.out.alloc Hbel.out.size (Obj.cells #[.int .u8 0] 5)
      have Hown' := hid own'
      have HkT := hid kT
      have Hbel' := hid bel'
      clear own' bel' kT
      go_wp2_with (at_builtin; refine wpList_append_text rfl (.tmp 17) (.tmp 18) rfl Tryd.underlying29 hi hz0 hz1 hz2 rfl Hown'.out rfl HkT.out ?c1 ?c2 ?_)
      case c1 => simp; omega
      case c2 => exact Hbel'.out.size
      intro v3 w3 own3 g3 b3
      have hz' : z + 1 ≤ Sha.zerosFor bs.length := by
        have := Hz.out
        have := Hlen.out
        unfold Sha.zerosFor at *
        omega
      have Hn : Hid (OwnB w3 w.heap.size 5 v3 (bs ++ 128 :: List.replicate (z + 1) 0) ∧ Below w.heap.size w w3) := hid ⟨by rw [List.replicate_succ']; simpa using own3, Hbel'.out.trans b3⟩
      obtain ⟨a3, c3, rfl, _, _⟩ := Hn.out.1.text
      have hl3 : (bs ++ 128 :: List.replicate (z + 1) (0 : Int)).length = len + 1 + z + 1 := by rw [List.length_append, List.length_cons, List.length_replicate, Hlen.out]; omega
      rw [hl3] at Hn
      rw [hl3]
      clear own3 g3 b3 HkT Hown' Hbel' hl3
      have hlb := Hlen.out
      go_wp2_with fail
      exact ⟨⟨z + 1, hz', Hn.out.1, Hn.out.2⟩, by simp only [sliceLen]; omega⟩
end Go.Proofs.YtkakoiaahgchmaaDoor
namespace Go.Proofs.YtkakoiaahgchmaaDoor
set_option maxRecDepth 100000
open Go.ChangeShapes Go.WideShapes Go.ChangeAt Go.RowKit
set_option maxHeartbeats 2000000 in
theorem keys_any (w : World) : Calls Tryd.prog 68 #[] w fun e w' => ∃ g, e = .returned (.slice (some ⟨g, 0, none⟩) 64 64) ∧ w.heap.size ≤ g ∧ Blk w' g (wordCells 64 Sha.keys) 103 ∧ Below w.heap.size w w' := by
  have hk := Blk.new (w := w) rfl (wordCells 64 Sha.keys) 103
  have hb := (Below.refl w.heap.size w).alloc (Nat.le_refl _) (.cells (wordCells 64 Sha.keys) 103 (0, 0))
  have Hk := hid (And.intro hk hb)
  clear hk hb
  go_enter Tryd.func68, Tryd.ntmps68
  go_wp2_with fail
  go_ret
  exact ⟨w.heap.size, rfl, Nat.le_refl _, Hk.out.1, Hk.out.2⟩
end Go.Proofs.YtkakoiaahgchmaaDoor
namespace Go.Proofs.YtkakoiaahgchmaaDoor
set_option maxRecDepth 100000
open Go.ChangeShapes Go.WideShapes Go.ChangeAt Go.RowKit
/-- a slice whose first eight cells are a state -/
def VAt (w : World) (B : Nat) (v : Value) (st : Sha.St) : Prop := ∃ g cap cur, v = .slice (some ⟨g, 0, none⟩) 8 cap ∧ B ≤ g ∧ 8 ≤ cap ∧ cap ≤ 9223372036854775807 ∧ Blk w g cur 103 ∧ ∀ j, j < 8 → cur[j]? = some (.int .u32 ((words st).getD j 0 : Nat))
theorem words_cell (st : Sha.St) (j : Nat) (hj : j < 8) : (stCells st)[j]? = some (.int .u32 ((words st).getD j 0 : Nat)) := by
  have hl : j < (words st).length := hj
  rw [stCells_words, List.getElem?_map, List.getD_eq_getElem?_getD, List.getElem?_eq_getElem hl]
  rfl
theorem VAt.of_owns {w : World} {B : Nat} {v : Value} {st : Sha.St} (h : w.ownsRow B 103 1 v 8 (stCells st)) : VAt w B v st := by
  obtain ⟨_, ⟨_, h⟩ | ⟨g, cap, cur, rfl, hg, hh, hle, hmx, _, htk⟩⟩ := h
  · omega
  · refine ⟨g, cap, cur, rfl, hg, hle, by unfold maxLen at hmx; omega, hh, fun j hj => ?_⟩
    rw [← words_cell st j hj, ← htk, List.getElem?_take, if_pos (by omega)]
    simp
/-- the first i words added -/
def mixW (s r : Sha.St) (i : Nat) : List Nat := (words (Sha.add s r)).take i ++ (words s).drop i
def mixCells (s r : Sha.St) (i : Nat) : Array Value := ((mixW s r i).map fun n : Nat => Value.int .u32 n).toArray
theorem mix_zero (s r : Sha.St) : mixCells s r 0 = (stCells s).toArray := rfl
theorem mix_all (s r : Sha.St) : mixCells s r 8 = (stCells (Sha.add s r)).toArray := rfl
theorem mix_get (s r : Sha.St) (i : Nat) (hi : i < 8) : (mixCells s r i)[i]? = some (.int .u32 ((words s).getD i 0 : Nat)) := by
  match i, hi with
  | 0, _ => rfl
  | 1, _ => rfl
  | 2, _ => rfl
  | 3, _ => rfl
  | 4, _ => rfl
  | 5, _ => rfl
  | 6, _ => rfl
  | 7, _ => rfl
theorem mix_set (s r : Sha.St) (i : Nat) (hi : i < 8) (V : Int) (hV : V = (((words s).getD i 0 + (words r).getD i 0) % 4294967296 : Nat)) : (mixCells s r i).setIfInBounds i (.int .u32 V) = mixCells s r (i + 1) := by
  subst hV
  match i, hi with
  | 0, _ => rfl
  | 1, _ => rfl
  | 2, _ => rfl
  | 3, _ => rfl
  | 4, _ => rfl
  | 5, _ => rfl
  | 6, _ => rfl
  | 7, _ => rfl
theorem right_q {w : World} {x0 : Ext w} (x n : Nat) (p q : Int) (hx : x < 4294967296) (h2 : n ≤ 31) (hp : p = ((2 ^ n : Nat) : Int)) (hq : q = ((2 ^ (32 - n) : Nat) : Int)) :
    Calls Tryd.prog 70 #[.int .u32 x, .int .u32 p, .int .u32 q] x0.at_ fun e w'' => e = .returned (.int .u32 (Sha.rotr n x : Nat)) ∧ ∃ y : Ext w, w'' = y.at_ :=
  Calls.ext (right_any x n p q _ hx h2 hp hq)
theorem pad_length (bs : List Nat) : (Sha.pad bs).length % 64 = 0 ∧ (Sha.pad bs).length ≤ bs.length + 72 := by
  unfold Sha.pad
  have : Sha.zerosFor bs.length = (119 - bs.length % 64) % 64 := rfl
  rw [List.length_append, List.length_cons, List.length_append, List.length_replicate, nbe_length]
  omega
theorem info_word : (Tryd.prog.info? 103).map (fun i => (i.zero, i.size, i.bytes)) = some (some (.int .u32 0), 1, 4) := by kernel_rfl
/-- a block of a text -/
def blkOf (l : List Nat) (k : Nat) : List Nat := (l.drop (64 * k)).take 64
theorem blkOf_get (l : List Nat) (k j : Nat) (hj : j < 64) : (toZ l).getD (64 * k + j) 0 = ((blkOf l k).getD j 0 : Nat) := by
  unfold blkOf toZ
  simp only [List.getD_eq_getElem?_getD, List.getElem?_map, List.getElem?_take, if_pos hj, List.getElem?_drop]
  cases l[64 * k + j]? <;> rfl
theorem blkOf_lt {l : List Nat} (hl : ∀ x ∈ l, x < 256) (k j : Nat) : (blkOf l k).getD j 0 < 256 := by
  rw [List.getD_eq_getElem?_getD]
  cases h : (blkOf l k)[j]? with
  | none => simp
  | some x =>
    have := List.mem_of_getElem? h
    exact hl x (List.mem_of_mem_drop (List.mem_of_mem_take this))
/-- the reference's memory at the head of its loop -/
structure RefW (w : World) (gk : Nat) (ap : Option Addr) (cp : Nat) (P : List Int) (st : Sha.St) (wr : World) : Prop where
  ks : Blk wr (w.heap.size + 1) (stCells st).toArray 103
  kk : Blk wr gk (wordCells 64 Sha.keys) 103
  txt : TextAt wr ap P.length cp P
  res : Blk wr w.heap.size (byteCells 32 []) 23
  bel : Below w.heap.size w wr
  gkl : w.heap.size + 2 ≤ gk
  apl : ∀ p : Addr, ap = some p → w.heap.size + 2 ≤ p.block
theorem RefW.below {w : World} {gk : Nat} {ap : Option Addr} {cp : Nat} {P : List Int} {st : Sha.St} {wr wr' : World} (h : RefW w gk ap cp P st wr) (hb : Below wr.heap.size wr wr') : RefW w gk ap cp P st wr' :=
  ⟨h.ks.below hb, h.kk.below hb, h.txt.below hb, h.res.below hb, Below.on h.bel hb, h.gkl, h.apl⟩
theorem RefW.put {w : World} {gk : Nat} {ap : Option Addr} {cp : Nat} {P : List Int} {st st' : Sha.St} {wr wr' : World} (h : RefW w gk ap cp P st wr) (hb : But (w.heap.size + 1) wr wr') (hk : Blk wr' (w.heap.size + 1) (stCells st').toArray 103) : RefW w gk ap cp P st' wr' :=
  ⟨hk, hb.blk h.kk (by have := h.gkl; omega), h.txt.but hb (fun _ p hp => by have := h.apl p hp; omega), hb.blk h.res (by omega), hb.below h.bel h.bel.size (by omega), h.gkl, h.apl⟩
/-- what a round reads -/
structure RndW (wd : World) (g : Nat) (cur : Array Value) (gw : Nat) (WS : List Nat) (gk : Nat) : Prop where
  v : Blk wd g cur 103
  w : Blk wd gw (wordCells 64 WS) 103
  k : Blk wd gk (wordCells 64 Sha.keys) 103
theorem RndW.below {w w' : World} {g : Nat} {cur : Array Value} {gw : Nat} {WS : List Nat} {gk : Nat} (h : RndW w g cur gw WS gk) (hb : Below w.heap.size w w') : RndW w' g cur gw WS gk := ⟨h.v.below hb, h.w.below hb, h.k.below hb⟩
end Go.Proofs.YtkakoiaahgchmaaDoor
namespace Go.Proofs.YtkakoiaahgchmaaDoor
set_option maxRecDepth 100000
open Go.ChangeShapes Go.WideShapes Go.ChangeAt Go.RowKit
set_option maxHeartbeats 8000000 in
theorem refsum_any (a : Option Addr) (len cap : Nat) (bs : List Int) (w : World) (hT : TextAt w a len cap bs) (hbnd : len ≤ 140737488340000) :
    Calls Tryd.prog 40 #[.slice a len cap] w fun e w' => e = .returned (.agg ((sumZ bs).map (Value.int .u8)).toArray) ∧ Below w.heap.size w w' := by
  have HT := hid hT
  have hbl := hT.length
  have hpl := pad_length (natB bs)
  have hnl : (natB bs).length = bs.length := by simp [natB]
  have Hpl := hid hpl
  have Hnl := hid hnl
  have Hbl := hid hbl
  have Hkr := hid ((Blk.new (w := w) rfl (byteCells 32 []) 23).old (.cells (stCells Sha.start).toArray 103 (0, 0)))
  have HbA := hid (((Below.refl w.heap.size w).alloc (Nat.le_refl _) (.cells (byteCells 32 []) 23 (0, 0))).alloc (by rw [World.size_alloc]; omega) (.cells (stCells Sha.start).toArray 103 (0, 0)))
  have Hks := hid (Blk.new (w := w.alloc (.cells (byteCells 32 []) 23 (0, 0))) rfl (stCells Sha.start).toArray 103)
  clear hT hpl hnl hbl
  go_enter Tryd.func40, Tryd.ntmps40
  go_wp2_with fail
  refine (keys_any _).mono ?_
  rintro e w1 ⟨gk, rfl, hgk, kk, b1⟩
  rw [World.size_alloc, World.size_alloc] at hgk
  have Hkk := hid kk
  have Hkr1 := hid (Hkr.out.below b1)
  have Hks1 := hid (Hks.out.below b1)
  have Hb1 := hid (Below.on HbA.out b1)
  have b1s : w.heap.size + 2 ≤ w1.heap.size := by have := b1.size; rw [World.size_alloc, World.size_alloc] at this; omega
  clear kk b1 Hkr HbA Hks
  rw [World.size_alloc] at Hks1
  go_wp2_with fail
  refine (padded_any a len cap bs w1 (HT.out.below Hb1.out) (by omega)).mono ?_
  rintro e w2 ⟨vp, rfl, own2, b2⟩
  obtain ⟨ap, cp, rfl, hTp, hap⟩ := own2.text2
  have hapl : ∀ p : Addr, ap = some p → w.heap.size + 2 ≤ p.block := fun p hp => by have := (hap p hp).1; have := b1s; omega
  clear hap b1s
  have hPl : (toZ (Sha.pad (natB bs))).length = (Sha.pad (natB bs)).length := by rw [toZ, List.length_map]
  rw [hPl] at hTp
  rw [hPl]
  have Hkk2 := hid (Hkk.out.below b2)
  have Hkr2 := hid (Hkr1.out.below b2)
  have Hks2 := hid (Hks1.out.below b2)
  have Hb2 := hid (Below.on Hb1.out b2)
  have HTp := hid hTp
  clear own2 b2 hTp hPl Hkk Hkr1 Hks1 Hb1
  have HW2 : Hid (RefW w gk ap cp (toZ (Sha.pad (natB bs))) Sha.start w2) := hid ⟨Hks2.out, Hkk2.out, by rw [toZ, List.length_map]; exact HTp.out, Hkr2.out, Hb2.out, hgk, hapl⟩
  clear hapl hgk Hkk2 Hkr2 Hks2 Hb2
  obtain ⟨NB, hNB⟩ : ∃ NB, (Sha.pad (natB bs)).length = 64 * NB := ⟨(Sha.pad (natB bs)).length / 64, by have := Hpl.out.1; omega⟩
  have hNBb : 64 * NB ≤ len + 72 := by have := Hpl.out.2; have := Hnl.out; have := Hbl.out; omega
  have HNB := hid hNB
  rw [hNB]
  rw [hNB] at HTp
  have hcp := HTp.out.le
  have hcm := HTp.out.max
  clear hNB
  go_wp2_with fail
  go_loopw [6] (fun v wr => ∃ k : Nat, k ≤ NB ∧ v = .int .i64 (64 * k : Nat) ∧ RefW w gk ap cp (toZ (Sha.pad (natB bs))) (Sha.run Sha.start (Sha.pad (natB bs)) k) wr) (fun v _ => 64 * NB - (intOf v).toNat)
  case atStart => exact ⟨0, Nat.zero_le _, rfl, HW2.out⟩
  case round =>
    obtain ⟨k, hk, rfl, hW⟩ := hrel
    have HW := hid hW
    clear hW HW2
    by_cases hlt : k < NB
    · --<<
      have hc1 : ((64 * k : Nat) : Int) < 64 * (NB : Int) := by omega
      obtain ⟨iw, hi, hz0, hz1, hz2⟩ := info_parts info_word
      have hb0 := HW.out.bel.size
      go_wp2_with (at_make; refine wpList_make_full _ rfl _ _ 104 rfl wr.heap.size 103 iw (.int .u32 0) 1 Tryd.underlying104 hi hz0 hz1 _ _ _ _ 64 rfl rfl rfl rfl ?a3 ?a4 ?a5 ?_)
      case a3 => rw [hz2]; omega
      case a4 => unfold maxLen; omega
      case a5 => simp
      intro w3 hown hgrow
      obtain ⟨_, kB⟩ := blk_of_owns hown
      have e64 : (madeCells #[Value.int IntKind.u32 0] 64).toList.toArray = wordCells 64 [] := by kernel_rfl
      rw [e64] at kB
      have hB3 : Below wr.heap.size wr w3 := ⟨hgrow.os, hgrow.tape, hgrow.output, hgrow.size, fun k hk => hgrow.block k hk (by simp)⟩
      have HkB := hid kB
      have HB3 := hid hB3
      have hlen0 : 0 < (toZ (Sha.pad (natB bs))).length := by have := HNB.out; simp only [toZ, List.length_map]; omega
      obtain ⟨x, o, rfl, hx, hc⟩ := HW.out.txt.at_ hlen0
      have HL : Hid ((toZ (Sha.pad (natB bs))).length = 64 * NB) := hid (by rw [toZ, List.length_map]; exact HNB.out)
      rw [HL.out] at hc
      have Hc := hid hc
      have HPs : Hid (∀ x ∈ Sha.pad (natB bs), x < 256) := hid (fun x hx => by
        have := HW.out.txt.small (x : Int) (by simp only [toZ, List.mem_map]; exact ⟨x, hx, rfl⟩)
        omega)
      have hszo := HB3.out.size
      have HQ : Hid (∀ j, j < 64 → wr.cell? ⟨x, o + (64 * k + j), none⟩ = some (Value.int .u8 ((blkOf (Sha.pad (natB bs)) k).getD j 0 : Nat))) := hid fun j hj => by
        rw [Hc.out (64 * k + j) (by omega), blkOf_get _ _ _ hj]
      have HBl : Hid (∀ j, (blkOf (Sha.pad (natB bs)) k).getD j 0 < 256) := hid (blkOf_lt HPs.out k)
      have HRun : Hid (Sha.run Sha.start (Sha.pad (natB bs)) (k + 1) = Sha.add (Sha.run Sha.start (Sha.pad (natB bs)) k) (Sha.rounds (Sha.sched (blkOf (Sha.pad (natB bs)) k) 64) (Sha.run Sha.start (Sha.pad (natB bs)) k) 64)) := hid (by simp only [Sha.run, Sha.compress, blkOf])
      have HOk : Hid (Ok (Sha.run Sha.start (Sha.pad (natB bs)) k)) := hid (Ok.run Ok.start _ k)
      generalize blkOf (Sha.pad (natB bs)) k = BL at HQ HBl HRun
      generalize Sha.run Sha.start (Sha.pad (natB bs)) k = st at HW HRun HOk
      clear Hc HPs
      generalize hwo : wr = wo at *
      clear e64 hwo hown hgrow kB hB3 hc hlen0
      go_wp2_with fail
      go_loopw [8] (fun v wq => ∃ t : Nat, t ≤ 16 ∧ v = .int .i64 t ∧ Blk wq wo.heap.size (wordCells 64 (Sha.sched BL t)) 103 ∧ Below wo.heap.size wo wq) (fun v _ => 16 - (intOf v).toNat)
      case atStart => exact ⟨0, Nat.zero_le _, rfl, HkB.out, HB3.out⟩
      case round =>
        obtain ⟨t, ht, rfl, kW, bW⟩ := hrel
        by_cases hlt2 : t < 16
        · --<
          have hl := sched_length BL t
          have HSc := hid (show Sha.sched BL (t + 1) = Sha.sched BL t ++ [BL.getD (4 * t) 0 * 16777216 + BL.getD (4 * t + 1) 0 * 65536 + BL.getD (4 * t + 2) 0 * 256 + BL.getD (4 * t + 3) 0] by rw [Sha.sched, if_pos hlt2]; rfl)
          have hq : ∀ j, j < 64 → wr.cell? ⟨x, o + (64 * k + j), none⟩ = some (Value.int .u8 (BL.getD j 0 : Nat)) := fun j hj => by
            rw [bW.cell (p := ⟨x, o + (64 * k + j), none⟩) hx, HQ.out j hj]
          have q0 := hq (4 * t) (by omega)
          have q1 := hq (4 * t + 1) (by omega)
          have q2 := hq (4 * t + 2) (by omega)
          have q3 := hq (4 * t + 3) (by omega)
          have b0 := HBl.out (4 * t)
          have b1 := HBl.out (4 * t + 1)
          have b2 := HBl.out (4 * t + 2)
          have b3 := HBl.out (4 * t + 3)
          have hz : wr.cell? ⟨wo.heap.size, t, none⟩ = some (.int .u32 0) := by rw [kW.cell]; have := wordCells_zero 64 (Sha.sched BL t) (by omega); rwa [hl] at this
          have e0 : (64 * (k : Int) + 4 * (t : Int)).toNat = 64 * k + 4 * t := by omega
          have e1 : (64 * (k : Int) + 4 * (t : Int) + 1).toNat = 64 * k + (4 * t + 1) := by omega
          have e2 : (64 * (k : Int) + 4 * (t : Int) + 2).toNat = 64 * k + (4 * t + 2) := by omega
          have e3 : (64 * (k : Int) + 4 * (t : Int) + 3).toNat = 64 * k + (4 * t + 3) := by omega
          have hb5 := bW.size
          clear hq
          generalize BL.getD (4 * t) 0 = y0 at *
          generalize BL.getD (4 * t + 1) 0 = y1 at *
          generalize BL.getD (4 * t + 2) 0 = y2 at *
          generalize BL.getD (4 * t + 3) 0 = y3 at *
          have hxr : x < wr.heap.size := by omega
          go_wp2_with fail
          refine wp_region_flow 32 (List.range 32) [] [] (by kernel_rfl) (by kernel_rfl) ?_
          apply Exists.intro
          refine ⟨fun w0 hb0 hF0 => ?_, ?_⟩
          · have key : ∀ (e : Ext w0) (p : Nat) (v : Value), wr.cell? ⟨x, p, none⟩ = some v → e.at_.cell? ⟨x, p, none⟩ = some v := fun e p v h => by
              rw [(Below.on hb0 e.same).cell (p := ⟨x, p, none⟩) hxr]; exact h
            have k0 := fun e => key e _ _ q0
            have k1 := fun e => key e _ _ q1
            have k2 := fun e => key e _ _ q2
            have k3 := fun e => key e _ _ q3
            clear key
            simp only [pick, List.range, List.range.loop, List.getElem?_toArray, List.getElem?_cons_succ, List.getElem?_cons_zero, Option.toList_some, List.cons_append, List.nil_append]
            repeat (go_big_quiet_step (fail))
            exact wpQuiet_nil rfl
          refine AlChk.nil ?_
          refine Walk.fin fun w4 h4 _ _ => ?_
          simp only [List.drop_succ_cons, List.drop_zero]
          have kW4 := kW.below h4
          have bW4 := Below.on bW h4
          have f1 := kW4.free
          have hz4 : w4.cell? ⟨wo.heap.size, t, none⟩ = some (.int .u32 0) := by rw [kW4.cell, ← kW.cell]; exact hz
          clear kW bW hz h4 q0 q1 q2 q3
          go_wp2_with fail
          have ev : ((y0 : Int) * 16777216 + (y1 : Int) * 65536 + (y2 : Int) * 256 + (y3 : Int)) = ((y0 * 16777216 + y1 * 65536 + y2 * 256 + y3 : Nat) : Int) := by omega
          have kW5 := kW4.set t (.int .u32 ((y0 : Int) * 16777216 + (y1 : Int) * 65536 + (y2 : Int) * 256 + (y3 : Int)))
          have := wordCells_set 64 (Sha.sched BL t) (y0 * 16777216 + y1 * 65536 + y2 * 256 + y3) (by omega)
          rw [hl, ← HSc.out] at this
          rw [ev, this] at kW5
          refine ⟨⟨t + 1, by omega, by go_num, ?_, bW4.setCell (p := ⟨wo.heap.size, t, none⟩) (Nat.le_refl _) _⟩, by simp [intOf]; omega⟩
          rw [ev]
          exact kW5
          -->
        · have h16 : 16 = t := by omega
          rw [← h16] at kW
          have H16 := hid h16
          clear h16
          go_wp2_with fail
          clear ht hlt2
          go_loopw [10] (fun v wr => ∃ m : Nat, 16 ≤ m ∧ m ≤ 64 ∧ v = .int .i64 m ∧ Blk wr wo.heap.size (wordCells 64 (Sha.sched BL m)) 103 ∧ Below wo.heap.size wo wr) (fun v _ => 64 - (intOf v).toNat)
          case atStart => exact ⟨16, by omega, by omega, rfl, kW, bW⟩
          case round =>
            clear kW bW
            obtain ⟨m, hm0, hm, rfl, kW, bW⟩ := hrel
            by_cases hlt3 : m < 64
            · --<
              have hl := sched_length BL m
              have HS := hid (show Sha.sched BL (m + 1) = Sha.sched BL m ++ [Sha.next (Sha.sched BL m) m] by rw [Sha.sched, if_neg (by omega)])
              have q15 := wordCells_get 64 (Sha.sched BL m) (m - 15) (by omega)
              have q2 := wordCells_get 64 (Sha.sched BL m) (m - 2) (by omega)
              have q7 := wordCells_get 64 (Sha.sched BL m) (m - 7) (by omega)
              have q16 := wordCells_get 64 (Sha.sched BL m) (m - 16) (by omega)
              rw [← kW.cell] at q15 q2 q7 q16
              have hz : wr.cell? ⟨wo.heap.size, m, none⟩ = some (.int .u32 0) := by rw [kW.cell]; have := wordCells_zero 64 (Sha.sched BL m) (by omega); rwa [hl] at this
              have hbw := sched_lt BL HBl.out m
              have l15 := hbw (m - 15)
              have l2 := hbw (m - 2)
              have l7 := hbw (m - 7)
              have l16 := hbw (m - 16)
              have HN : Hid (Sha.next (Sha.sched BL m) m = (Sha.s1 ((Sha.sched BL m).getD (m - 2) 0) + (Sha.sched BL m).getD (m - 7) 0 + Sha.s0 ((Sha.sched BL m).getD (m - 15) 0) + (Sha.sched BL m).getD (m - 16) 0) % 4294967296) := hid rfl
              generalize (Sha.sched BL m).getD (m - 15) 0 = x15 at *
              generalize (Sha.sched BL m).getD (m - 2) 0 = x2 at *
              generalize (Sha.sched BL m).getD (m - 7) 0 = x7 at *
              generalize (Sha.sched BL m).getD (m - 16) 0 = x16 at *
              have e1 : ((m : Int) - 15).toNat = m - 15 := by omega
              have e2 : ((m : Int) - 2).toNat = m - 2 := by omega
              have e3 : ((m : Int) - 7).toNat = m - 7 := by omega
              have e4 : ((m : Int) - 16).toNat = m - 16 := by omega
              have hbs := bW.size
              clear hbw
              go_wp2_with fail
              refine wp_region_flow 32 (List.range 32) [] [] (by kernel_rfl) (by kernel_rfl) ?_
              apply Exists.intro
              refine ⟨fun w0 hb0 hF0 => ?_, ?_⟩
              · have key : ∀ (e : Ext w0) (p : Nat) (v : Value), wr.cell? ⟨wo.heap.size, p, none⟩ = some v → e.at_.cell? ⟨wo.heap.size, p, none⟩ = some v := fun e p v h => by
                  rw [((kW.below hb0).below e.same).cell, ← kW.cell]; exact h
                have k7 := fun e => key e _ _ q7
                have k16 := fun e => key e _ _ q16
                have bs0 := bits_s0 x15 l15
                have bs1 := bits_s1 x2 l2
                have m0 := s0_lt x15 l15
                have m1 := s1_lt x2 l2
                clear key
                simp only [pick, List.range, List.range.loop, List.getElem?_toArray, List.getElem?_cons_succ, List.getElem?_cons_zero, Option.toList_some, List.cons_append, List.nil_append]
                repeat (go_big_quiet_step (first | (go_at_call 70; exact right_q _ 17 _ _ l2 (by decide) (by decide) (by decide)) | (go_at_call 70; exact right_q _ 19 _ _ l2 (by decide) (by decide) (by decide)) | (go_at_call 70; exact right_q _ 7 _ _ l15 (by decide) (by decide) (by decide)) | (go_at_call 70; exact right_q _ 18 _ _ l15 (by decide) (by decide) (by decide))))
                exact wpQuiet_nil rfl
              refine AlChk.nil ?_
              refine Walk.fin fun w4 h4 _ _ => ?_
              simp only [List.drop_succ_cons, List.drop_zero]
              have kW4 := kW.below h4
              have bW4 := Below.on bW h4
              have f1 := kW4.free
              have hz4 : w4.cell? ⟨wo.heap.size, m, none⟩ = some (.int .u32 0) := by rw [kW4.cell, ← kW.cell]; exact hz
              have hfin : ∀ V : Int, V = ((Sha.s1 x2 + x7 + Sha.s0 x15 + x16) % 4294967296 : Nat) → Blk (w4.setCell ⟨wo.heap.size, m, none⟩ (.int .u32 V)) wo.heap.size (wordCells 64 (Sha.sched BL (m + 1))) 103 := fun V hV => by
                subst hV
                have := wordCells_set 64 (Sha.sched BL m) ((Sha.s1 x2 + x7 + Sha.s0 x15 + x16) % 4294967296) (by omega)
                rw [hl] at this
                rw [HS.out, HN.out, ← this]
                exact kW4.set m _
              have Hfin := hid hfin
              clear q15 q2 q7 q16 kW bW hz h4 hfin
              go_wp2_with fail
              exact ⟨⟨m + 1, by omega, by omega, by go_num, Hfin.out _ (by omega), bW4.setCell (p := ⟨wo.heap.size, m, none⟩) (Nat.le_refl _) _⟩, by simp [intOf]; omega⟩
              -->
            · have h64 : m = 64 := by omega
              rw [h64] at kW
              have H64 := hid h64
              have kS := HW.out.ks.below bW
              have HkW := hid kW
              have HbW := hid bW
              have hsz2 := bW.size
              have hlt0 := kS.lt
              have kSa := kS.old (Obj.cells #[] 103)
              have HkS := hid kSa
              have HbWa := hid (bW.alloc bW.size (Obj.cells #[] 103))
              have HkWa := hid (kW.old (Obj.cells #[] 103))
              have own0 : (wr.alloc (Obj.cells #[] 103)).ownsRow wo.heap.size 103 1 (.slice (some ⟨wr.heap.size, 0, none⟩) 0 0) 0 [] :=
                ⟨by simp, .inr ⟨wr.heap.size, 0, #[], rfl, hsz2, Blk.new rfl _ _, Nat.le_refl _, by unfold maxLen; omega, by simp, by simp⟩⟩
              have Hown0 := hid own0
              clear kW bW kS kSa own0 h64
              go_wp2_with (at_builtin; refine wpList_append_own _ rfl _ _ 104 rfl wo.heap.size 103 iw (.int .u32 0) 1 4 Tryd.underlying104 hi hz0 hz1 hz2 rfl (by decide) (.slice (some ⟨wr.heap.size, 0, none⟩) 0 0) 0 _ rfl Hown0.out ⟨w.heap.size + 1, 0, none⟩ 8 8 (stCells st) rfl rfl ?c1 ?c2 ?c3 ?c4 ?c5 ?_)
              case c1 => exact news_blk HkS.out
              case c2 => simp [stCells, Value.oneCell']
              case c3 => unfold maxLen; omega
              case c4 => omega
              case c5 => rw [World.size_alloc]; omega
              intro v5 w5 own5 g5 _
              have hlt5 := Hown0.out.lt
              have b5 : Below wo.heap.size wo w5 := HbWa.out.grown g5 (by rw [World.size_alloc]; omega) (fun q hq => (hlt5 q hq).1)
              have k5 : Blk w5 wo.heap.size (wordCells 64 (Sha.sched BL 64)) 103 := HkWa.out.grown g5 (fun q hq => by
                simp only [Value.ownBlock, Option.some.injEq] at hq
                have := HkW.out.lt
                omega)
              have H5 := hid (And.intro (VAt.of_owns own5) (And.intro k5 b5))
              have HWl := hid (sched_length BL 64)
              have HWlt := hid (sched_lt BL HBl.out 64)
              clear own5 g5 hlt5 b5 k5 Hown0 HkS HbWa HkWa HkW HbW HkB HB3
              generalize Sha.sched BL 64 = WS at *
              go_wp2_with fail
              clear hm hlt3 hm0
              go_loopw [13, 14] (fun v i wr => ∃ j : Nat, j ≤ 64 ∧ i = .int .i64 j ∧ VAt wr wo.heap.size v (Sha.rounds WS st j) ∧ Blk wr wo.heap.size (wordCells 64 WS) 103 ∧ Below wo.heap.size wo wr) (fun _ i _ => 64 - (intOf i).toNat)
              case atStart => exact ⟨0, Nat.zero_le _, rfl, H5.out.1, H5.out.2.1, H5.out.2.2⟩
              case round =>
                clear H5
                obtain ⟨j, hj, rfl, ⟨g, cap, cur, rfl, hgB, hc8, hcm, kV, hcur⟩, kW, bW⟩ := hrel
                by_cases hlt4 : j < 64
                · --<
                  have hR : RndW wr g cur wo.heap.size WS gk := ⟨kV, kW, HW.out.kk.below bW⟩
                  have qW := wordCells_get 64 WS j (by have := HWl.out; omega)
                  have qK := wordCells_get 64 Sha.keys j (by simp [Sha.keys]; omega)
                  have lW := HWlt.out j
                  have lK := keys_lt j
                  have HR : Hid (Sha.rounds WS st (j + 1) = Sha.round (Sha.keys.getD j 0) (WS.getD j 0) (Sha.rounds WS st j)) := hid rfl
                  have ok := HOk.out.rounds WS j
                  generalize Sha.keys.getD j 0 = K at *
                  generalize WS.getD j 0 = W at *
                  generalize Sha.rounds WS st j = r at *
                  obtain ⟨xa, xb, xc, xd, xe, xf, xg, xh⟩ := r
                  obtain ⟨oa, ob, oc, od, oe, of, og, oh⟩ := ok
                  simp only [] at oa ob oc od oe of og oh
                  have u0 : cur[0]? = some (.int .u32 (xa : Nat)) := hcur 0 (by omega)
                  have u1 : cur[1]? = some (.int .u32 (xb : Nat)) := hcur 1 (by omega)
                  have u2 : cur[2]? = some (.int .u32 (xc : Nat)) := hcur 2 (by omega)
                  have u3 : cur[3]? = some (.int .u32 (xd : Nat)) := hcur 3 (by omega)
                  have u4 : cur[4]? = some (.int .u32 (xe : Nat)) := hcur 4 (by omega)
                  have u5 : cur[5]? = some (.int .u32 (xf : Nat)) := hcur 5 (by omega)
                  have u6 : cur[6]? = some (.int .u32 (xg : Nat)) := hcur 6 (by omega)
                  have u7 : cur[7]? = some (.int .u32 (xh : Nat)) := hcur 7 (by omega)
                  have a0 := (hR.v.cell 0).trans u0
                  have a4 := (hR.v.cell 4).trans u4
                  have HbW := hid bW
                  have hszr := bW.size
                  have HR0 := hid hR
                  have Hu0 := hid u0
                  have Hu1 := hid u1
                  have Hu2 := hid u2
                  have Hu3 := hid u3
                  have Hu5 := hid u5
                  have Hu6 := hid u6
                  have Hu7 := hid u7
                  have HqW := hid qW
                  have HqK := hid qK
                  clear hcur kV kW bW hR u0 u1 u2 u3 u4 u5 u6 u7 qW qK
                  go_wp2_with fail
                  clear a0 a4
                  refine wp_region_flow 13 (List.range 13) [] [] (by kernel_rfl) (by kernel_rfl) ?_
                  apply Exists.intro
                  refine ⟨fun w0 hb0 hF0 => ?_, ?_⟩
                  · have c5 : ∀ e : Ext w0, e.at_.cell? ⟨g, 5, none⟩ = some (.int .u32 (xf : Nat)) := fun e => (((HR0.out.below hb0).below e.same).v.cell 5).trans Hu5.out
                    have c6 : ∀ e : Ext w0, e.at_.cell? ⟨g, 6, none⟩ = some (.int .u32 (xg : Nat)) := fun e => (((HR0.out.below hb0).below e.same).v.cell 6).trans Hu6.out
                    have bc := bits_ch_ref oe of og
                    simp only [pick, List.range, List.range.loop, List.getElem?_toArray, List.getElem?_cons_succ, List.getElem?_cons_zero, Option.toList_some, List.cons_append, List.nil_append]
                    repeat (go_big_quiet_step (fail))
                    exact wpQuiet_nil rfl
                  refine AlChk.nil ?_
                  refine Walk.fin fun w6 h6 _ _ => ?_
                  simp only [List.drop_succ_cons, List.drop_zero]
                  have HR6 := hid (HR0.out.below h6)
                  have Hb6 := hid (Below.on HbW.out h6)
                  clear h6
                  go_wp2_with fail
                  refine wp_region_flow 20 (List.range 20) [] [] (by kernel_rfl) (by kernel_rfl) ?_
                  apply Exists.intro
                  refine ⟨fun w0 hb0 hF0 => ?_, ?_⟩
                  · have c1 : ∀ e : Ext w0, e.at_.cell? ⟨g, 1, none⟩ = some (.int .u32 (xb : Nat)) := fun e => (((HR6.out.below hb0).below e.same).v.cell 1).trans Hu1.out
                    have c2 : ∀ e : Ext w0, e.at_.cell? ⟨g, 2, none⟩ = some (.int .u32 (xc : Nat)) := fun e => (((HR6.out.below hb0).below e.same).v.cell 2).trans Hu2.out
                    have bm := bits_maj_ref oa ob oc
                    simp only [pick, List.range, List.range.loop, List.getElem?_toArray, List.getElem?_cons_succ, List.getElem?_cons_zero, Option.toList_some, List.cons_append, List.nil_append]
                    repeat (go_big_quiet_step (fail))
                    exact wpQuiet_nil rfl
                  refine AlChk.nil ?_
                  refine Walk.fin fun w7 h7 _ _ => ?_
                  simp only [List.drop_succ_cons, List.drop_zero]
                  have HR7 := hid (HR6.out.below h7)
                  have Hb7 := hid (Below.on Hb6.out h7)
                  clear h7
                  go_wp2_with fail
                  refine wp_region_flow 25 (List.range 25) [] [] (by kernel_rfl) (by kernel_rfl) ?_
                  apply Exists.intro
                  refine ⟨fun w0 hb0 hF0 => ?_, ?_⟩
                  · have c7 : ∀ e : Ext w0, e.at_.cell? ⟨g, 7, none⟩ = some (.int .u32 (xh : Nat)) := fun e => (((HR7.out.below hb0).below e.same).v.cell 7).trans Hu7.out
                    have ck : ∀ e : Ext w0, e.at_.cell? ⟨gk, j, none⟩ = some (.int .u32 (K : Nat)) := fun e => (((HR7.out.below hb0).below e.same).k.cell j).trans HqK.out
                    have cw : ∀ e : Ext w0, e.at_.cell? ⟨wo.heap.size, j, none⟩ = some (.int .u32 (W : Nat)) := fun e => (((HR7.out.below hb0).below e.same).w.cell j).trans HqW.out
                    have b1 := bits_S1 oe
                    simp only [pick, List.range, List.range.loop, List.getElem?_toArray, List.getElem?_cons_succ, List.getElem?_cons_zero, Option.toList_some, List.cons_append, List.nil_append]
                    repeat (go_big_quiet_step (first | (go_at_call 70; exact right_q _ 6 _ _ oe (by decide) (by decide) (by decide)) | (go_at_call 70; exact right_q _ 11 _ _ oe (by decide) (by decide) (by decide)) | (go_at_call 70; exact right_q _ 25 _ _ oe (by decide) (by decide) (by decide))))
                    exact wpQuiet_nil rfl
                  refine AlChk.nil ?_
                  refine Walk.fin fun w8 h8 _ _ => ?_
                  simp only [List.drop_succ_cons, List.drop_zero]
                  have HR8 := hid (HR7.out.below h8)
                  have Hb8 := hid (Below.on Hb7.out h8)
                  clear h8
                  go_wp2_with fail
                  refine (right_any _ 2 _ _ _ oa (by decide) (by decide) (by decide)).mono ?_
                  rintro e w9 ⟨rfl, h9⟩
                  have HR9 := hid (HR8.out.below h9)
                  have Hb9 := hid (Below.on Hb8.out h9)
                  clear h9
                  go_wp2_with fail
                  refine (right_any _ 13 _ _ _ oa (by decide) (by decide) (by decide)).mono ?_
                  rintro e w10 ⟨rfl, h10⟩
                  have HR10 := hid (HR9.out.below h10)
                  have Hb10 := hid (Below.on Hb9.out h10)
                  clear h10
                  go_wp2_with fail
                  refine (right_any _ 22 _ _ _ oa (by decide) (by decide) (by decide)).mono ?_
                  rintro e w11 ⟨rfl, h11⟩
                  have HR11 := hid (HR10.out.below h11)
                  have Hb11 := hid (Below.on Hb10.out h11)
                  have b2 := bits_S0 oa
                  have m2 := S0_lt oa
                  have m3 := maj_lt oa ob (c := xc)
                  have m4 := S1_lt oe
                  have m5 := ch_lt oe (f := xf) (g := xg)
                  clear h11
                  go_wp2_with fail
                  clear b2
                  refine wp_region_flow 22 (List.range 22) [] [] (by kernel_rfl) (by kernel_rfl) ?_
                  apply Exists.intro
                  refine ⟨fun w0 hb0 hF0 => ?_, ?_⟩
                  · have c1 : ∀ e : Ext w0, e.at_.cell? ⟨g, 1, none⟩ = some (.int .u32 (xb : Nat)) := fun e => (((HR11.out.below hb0).below e.same).v.cell 1).trans Hu1.out
                    have c2 : ∀ e : Ext w0, e.at_.cell? ⟨g, 2, none⟩ = some (.int .u32 (xc : Nat)) := fun e => (((HR11.out.below hb0).below e.same).v.cell 2).trans Hu2.out
                    have c3 : ∀ e : Ext w0, e.at_.cell? ⟨g, 3, none⟩ = some (.int .u32 (xd : Nat)) := fun e => (((HR11.out.below hb0).below e.same).v.cell 3).trans Hu3.out
                    have c5 : ∀ e : Ext w0, e.at_.cell? ⟨g, 5, none⟩ = some (.int .u32 (xf : Nat)) := fun e => (((HR11.out.below hb0).below e.same).v.cell 5).trans Hu5.out
                    have c6 : ∀ e : Ext w0, e.at_.cell? ⟨g, 6, none⟩ = some (.int .u32 (xg : Nat)) := fun e => (((HR11.out.below hb0).below e.same).v.cell 6).trans Hu6.out
                    simp only [pick, List.range, List.range.loop, List.getElem?_toArray, List.getElem?_cons_succ, List.getElem?_cons_zero, Option.toList_some, List.cons_append, List.nil_append]
                    repeat (go_big_quiet_step (fail))
                    exact wpQuiet_nil rfl
                  refine AlChk.nil ?_
                  refine Walk.fin fun w12 h12 _ _ => ?_
                  simp only [List.drop_succ_cons, List.drop_zero]
                  have HR12 := hid (HR11.out.below h12)
                  have Hb12 := hid (Below.on Hb11.out h12)
                  clear h12
                  go_wp2_with fail
                  refine ⟨⟨j + 1, by omega, by go_num, ?_, HR12.out.w.old _, Hb12.out.alloc Hb12.out.size _⟩, by simp [intOf]; omega⟩
                  refine ⟨_, 8, _, rfl, Hb12.out.size, Nat.le_refl _, by omega, Blk.new rfl _ _, fun i hi => ?_⟩
                  rw [HR.out]
                  match i, hi with
                  | 0, _ => exact congrArg (fun z : Int => some (Value.int .u32 z)) (by simp only [words, Sha.round, Sha.t1, Sha.t2, Sha.M, List.getD_cons_zero]; omega)
                  | 1, _ => rfl
                  | 2, _ => rfl
                  | 3, _ => rfl
                  | 4, _ => exact congrArg (fun z : Int => some (Value.int .u32 z)) (by simp only [words, Sha.round, Sha.t1, Sha.M, List.getD_cons_succ, List.getD_cons_zero]; omega)
                  | 5, _ => rfl
                  | 6, _ => rfl
                  | 7, _ => rfl
                  -->
                · have hj64 : j = 64 := by omega
                  have HVx : Hid (∀ i, i < 8 → cur[i]? = some (.int .u32 ((words (Sha.rounds WS st 64)).getD i 0 : Nat))) := hid (by rw [← hj64]; exact hcur)
                  have Hj64 := hid hj64
                  have Hwv := hid (HW.out.below bW)
                  have HkV := hid kV
                  have hokr := HOk.out.rounds WS 64
                  have hoks := HOk.out
                  have hgne : g ≠ w.heap.size + 1 := by
                    have := HW.out.ks.lt
                    omega
                  have hszr := bW.size
                  have hkslt := Hwv.out.ks.lt
                  clear hcur kV kW bW hj64
                  have HRun2 := hid HRun.out
                  clear HRun
                  generalize Sha.rounds WS st 64 = r at *
                  generalize hwv : wr = wv at *
                  clear hwv
                  go_wp2_with fail
                  clear hj hlt4
                  go_loopw [21] (fun v wr => ∃ i : Nat, i ≤ 8 ∧ v = .int .i64 i ∧ Blk wr (w.heap.size + 1) (mixCells st r i) 103 ∧ But (w.heap.size + 1) wv wr) (fun v _ => 8 - (intOf v).toNat)
                  case atStart => exact ⟨0, Nat.zero_le _, rfl, by rw [mix_zero]; exact Hwv.out.ks, But.of (Below.refl _ _)⟩
                  case round =>
                    obtain ⟨i, hi, rfl, kS, bS⟩ := hrel
                    by_cases hlt5 : i < 8
                    · have q1 := (kS.cell i).trans (mix_get st r i hlt5)
                      have q2 := ((bS.blk HkV.out hgne).cell i).trans (HVx.out i hlt5)
                      have m1 := words_lt hoks i
                      have m2 := words_lt hokr i
                      have hset := mix_set st r i hlt5
                      have Hset := hid hset
                      have HkS := hid kS
                      have HbS := hid bS
                      have HkVr := hid (bS.blk HkV.out hgne)
                      have hltS := kS.lt
                      clear hset
                      generalize (words st).getD i 0 = X at *
                      generalize (words r).getD i 0 = Y at *
                      clear kS bS
                      go_wp2_with fail
                      refine wp_region_flow 12 (List.range 12) [] [] (by kernel_rfl) (by kernel_rfl) ?_
                      apply Exists.intro
                      refine ⟨fun w0 hb0 hF0 => ?_, ?_⟩
                      · have c1 : ∀ e : Ext w0, e.at_.cell? ⟨w.heap.size + 1, i, none⟩ = some (.int .u32 (X : Nat)) := fun e => by rw [((HkS.out.below hb0).below e.same).cell, ← HkS.out.cell]; exact q1
                        have c2 : ∀ e : Ext w0, e.at_.cell? ⟨g, i, none⟩ = some (.int .u32 (Y : Nat)) := fun e => by rw [((HkVr.out.below hb0).below e.same).cell, ← HkVr.out.cell]; exact q2
                        simp only [pick, List.range, List.range.loop, List.getElem?_toArray, List.getElem?_cons_succ, List.getElem?_cons_zero, Option.toList_some, List.cons_append, List.nil_append]
                        repeat (go_big_quiet_step (fail))
                        exact wpQuiet_nil rfl
                      refine AlChk.nil ?_
                      refine Walk.fin fun w6 h6 _ _ => ?_
                      simp only [List.drop_succ_cons, List.drop_zero]
                      have kS6 := HkS.out.below h6
                      have HbS6 := hid (HbS.out.ext h6)
                      have q6 : w6.cell? ⟨w.heap.size + 1, i, none⟩ = some (.int .u32 (X : Nat)) := by rw [kS6.cell, ← HkS.out.cell]; exact q1
                      have f6 := kS6.free
                      have HkS6 := hid kS6
                      clear kS6 h6 q1 q2
                      go_wp2_with fail
                      refine ⟨⟨i + 1, by omega, by go_num, ?_, HbS6.out.set (p := ⟨w.heap.size + 1, i, none⟩) (.inl rfl) _⟩, by simp [intOf]; omega⟩
                      exact (Hset.out (((X : Int) + (Y : Int)) % 4294967296) (by omega)) ▸ HkS6.out.set i _
                    · have h8 : i = 8 := by omega
                      have kS8 : Blk wr (w.heap.size + 1) (stCells (Sha.add st r)).toArray 103 := by rw [h8, mix_all] at kS; exact kS
                      rw [← HRun2.out] at kS8
                      have HWn := hid (Hwv.out.put bS kS8)
                      have H8 := hid h8
                      clear kS kS8 bS h8
                      go_wp2_with fail
                      exact ⟨⟨k + 1, by omega, by go_num, HWn.out⟩, by simp [intOf]; omega⟩
      -->>
    · have hkN : k = NB := by omega
      have HsumE : Hid (sumZ bs = toZ ((words (Sha.run Sha.start (Sha.pad (natB bs)) k)).flatMap (Sha.nbe 4))) := hid (by
        rw [sumZ, Sha.sum, HNB.out, hkN, show 64 * NB / 64 = NB by omega, out_words])
      have okA := Ok.run Ok.start (Sha.pad (natB bs)) k
      generalize Sha.run Sha.start (Sha.pad (natB bs)) k = sf at *
      generalize hwf : wr = wf at *
      have Hkd := hid (Blk.new (w := wf) rfl (byteCells 32 []) 23)
      have HkN := hid hkN
      have hltS := HW.out.ks.lt
      have hltR := HW.out.res.lt
      clear hwf hkN
      go_wp2_with fail
      clear hk hlt
      go_loopw [23] (fun v wr => ∃ i : Nat, i ≤ 8 ∧ v = .int .i64 i ∧ Blk wr wf.heap.size (byteCells 32 (toZ (((words sf).take i).flatMap (Sha.nbe 4)))) 23 ∧ Below wf.heap.size wf wr) (fun v _ => 8 - (intOf v).toNat)
      case atStart => exact ⟨0, by omega, rfl, Hkd.out, (Below.refl _ _).alloc (Nat.le_refl _) _⟩
      case round =>
        obtain ⟨i, hi, rfl, kr, br⟩ := hrel
        by_cases hlti : i < 8
        · have hx : wr.cell? ⟨w.heap.size + 1, i, none⟩ = some (.int .u32 ((words sf).getD i 0 : Nat)) := ((HW.out.ks.below br).cell i).trans (by rw [List.getElem?_toArray]; exact words_cell sf i hlti)
          have hxl : (words sf).getD i 0 < 4294967296 := words_lt okA i
          have hts : (words sf).take (i + 1) = (words sf).take i ++ [(words sf).getD i 0] := by
            have : i < (words sf).length := hlti
            rw [List.take_succ_eq_append_getElem this]
            simp [this]
          have Hts := hid hts
          clear hts
          generalize (words sf).getD i 0 = X at *
          have hbl : (toZ (((words sf).take i).flatMap (Sha.nbe 4))).length = 4 * i := by
            rw [toZ, List.length_map, flat_len, List.length_take, Nat.min_eq_left (show i ≤ (words sf).length from Nat.le_of_lt hlti)]
          generalize hLd : toZ (((words sf).take i).flatMap (Sha.nbe 4)) = L at *
          have HL := hid hLd
          clear hLd
          have z0 : wr.cell? ⟨wf.heap.size, 4 * i, none⟩ = some (.int .u8 0) := by rw [kr.cell]; exact byteCells_zero _ _ _ (by omega) (by omega)
          have z1 : wr.cell? ⟨wf.heap.size, 4 * i + 1, none⟩ = some (.int .u8 0) := by rw [kr.cell]; exact byteCells_zero _ _ _ (by omega) (by omega)
          have z2 : wr.cell? ⟨wf.heap.size, 4 * i + 2, none⟩ = some (.int .u8 0) := by rw [kr.cell]; exact byteCells_zero _ _ _ (by omega) (by omega)
          have z3 : wr.cell? ⟨wf.heap.size, 4 * i + 3, none⟩ = some (.int .u8 0) := by rw [kr.cell]; exact byteCells_zero _ _ _ (by omega) (by omega)
          have o0 : ((4 : Int) * (i : Int)).toNat = 4 * i := by omega
          have o1 : ((4 : Int) * (i : Int) + 1).toNat = 4 * i + 1 := by omega
          have o2 : ((4 : Int) * (i : Int) + 2).toNat = 4 * i + 2 := by omega
          have o3 : ((4 : Int) * (i : Int) + 3).toNat = 4 * i + 3 := by omega
          have fq := kr.free
          have hne : w.heap.size + 1 ≠ wf.heap.size := by omega
          have Hkr := hid kr
          have Hbr := hid br
          have Hbl := hid hbl
          clear kr br hbl
          go_wp2_with fail
          refine ⟨⟨i + 1, by omega, by go_num, ?_, ?_⟩, by simp [intOf]; omega⟩
          · have := put_four Hkr.out Hbl.out hlti X hxl
            rw [Hts.out, List.flatMap_append, toZ, List.map_append, List.flatMap_singleton]
            rw [← HL.out] at this
            exact this
          · have hB : wf.heap.size ≤ wf.heap.size := Nat.le_refl _
            exact (((Hbr.out.setCell (p := ⟨wf.heap.size, 4 * i, none⟩) hB _).setCell (p := ⟨wf.heap.size, 4 * i + 1, none⟩) hB _).setCell (p := ⟨wf.heap.size, 4 * i + 2, none⟩) hB _).setCell (p := ⟨wf.heap.size, 4 * i + 3, none⟩) hB _
        · have h8i : i = 8 := by omega
          have kfull : Blk wr wf.heap.size ((sumZ bs).map (Value.int .u8)).toArray 23 := by
            have e : toZ (((words sf).take i).flatMap (Sha.nbe 4)) = sumZ bs := by
              rw [HsumE.out, h8i, List.take_of_length_le (by simp [words])]
            rw [e, byteCells_full 32 _ (sumZ_length bs)] at kr
            exact kr
          have Hkf := hid kfull
          have Hkres := hid (HW.out.res.below br)
          have Hfb := hid (Below.on HW.out.bel br)
          have Hsz : Hid (((sumZ bs).map (Value.int .u8)).toArray.size = 32) := hid (by simp [sumZ_length])
          have Hzb : Hid ((byteCells 32 []).size = 32) := hid (byteCells_size 32 [] (by simp))
          have H8i := hid h8i
          clear kr br kfull h8i
          go_wp2_with (first | (refine wpList_load_blk rfl 23 _ rfl wf.heap.size rfl _ 23 Hkf.out _ Tryd.underlying23 rfl 32 size_digest Hsz.out ?_) | (refine wpList_store_blk rfl 23 _ _ rfl w.heap.size _ rfl rfl _ 23 Hkres.out 32 size_digest Hzb.out Hsz.out (ints_one _ _) ?_; intro w6 hbut6 hk6))
          exact bodyPost_ret (v := .agg ((sumZ bs).map (Value.int .u8)).toArray) (results_blk Tryd.results40 _ w.heap.size rfl _ 23 hk6 _ Tryd.underlying23 rfl 32 size_digest Hsz.out) rfl ⟨rfl, hbut6.below Hfb.out Hfb.out.size (Nat.le_refl _)⟩
end Go.Proofs.YtkakoiaahgchmaaDoor
namespace Go.Proofs.YtkakoiaahgchmaaDoor
set_option maxRecDepth 100000
open Go.ChangeShapes Go.WideShapes Go.ChangeAt Go.RowKit
/-- the size of a digest's cells -/
theorem dsize {xs : List Int} (hx : xs.length = 32) : ((xs.map (Value.int .u8)).toArray).size = 32 := by simp [hx]
theorem zsize : (byteCells 32 []).size = 32 := byteCells_size 32 [] (by simp)
/-- a text that was made just now, whatever its block's mark -/
theorem TextAt.made {w : World} {bs : List Int} {n : Nat} {T : TypeId} (mark : Nat × Nat) (hn : bs.length = n) (hm : n ≤ 9223372036854775807) (hs : ∀ x ∈ bs, 0 ≤ x ∧ x < 256) : TextAt (w.alloc (.cells (bs.map (Value.int .u8)).toArray T mark)) (some ⟨w.heap.size, 0, none⟩) n n bs :=
  ⟨hn, Nat.le_refl _, hm, hs, .inr ⟨_, 0, none, rfl, fun j hj => ⟨rfl, by rw [World.size_alloc]; omega, by rw [Nat.zero_add, World.cell?_alloc_mark]; simp [show j < bs.length by omega]⟩⟩⟩
/-- texts, whose values lie in a block -/
theorem TextsAt.of_blk {w : World} {g n cap : Nat} {T : TypeId} {vs : Array Value} {ts : List (List Int)} (h : Blk w g vs T) (hl : ts.length = n) (hc : n ≤ cap) (hm : cap ≤ 9223372036854775807) (hv : ∀ j, j < n → ∃ a l c, vs[j]? = some (.slice a l c) ∧ TextAt w a l c (ts.getD j [])) : TextsAt w (some ⟨g, 0, none⟩) n cap ts :=
  ⟨hl, hc, hm, .inr ⟨g, 0, rfl, h.lt, fun j hj => by
    obtain ⟨a, l, c, h1, h2⟩ := hv j hj
    exact ⟨a, l, c, by rw [Nat.zero_add, h.cell]; exact h1, h2⟩⟩⟩
end Go.Proofs.YtkakoiaahgchmaaDoor
namespace Go.Proofs.YtkakoiaahgchmaaDoor
set_option maxRecDepth 100000
open Go.ChangeShapes Go.WideShapes Go.ChangeAt Go.RowKit
def xorZ (x y : Int) : Int := ((x.toNat ^^^ y.toNat : Nat) : Int)
@[irreducible] def blockZ (key : List Int) : List Int := if 64 < key.length then sumZ key ++ List.replicate 32 0 else key ++ List.replicate (64 - key.length) 0
def maskZ (b : List Int) (m : Int) : List Int := b.map fun x => xorZ x m
@[irreducible] def macZ (key text : List Int) : List Int := sumZ (maskZ (blockZ key) 92 ++ sumZ (maskZ (blockZ key) 54 ++ text))
/-- a slice of texts that is the call's own; the texts lie in older blocks -/
def OwnL (w : World) (base : Nat) (e : TypeId) (v : Value) (ts : List (List Int)) : Prop :=
  ∃ xs, w.ownsRow base e 1 v ts.length xs ∧ ∀ j, j < ts.length → ∃ a l c, xs[j]? = some (.slice a l c) ∧ TextAt w a l c (ts.getD j []) ∧ (0 < l → ∀ p : Addr, a = some p → p.block < base)
section
variable {P : Program} {w : World} {base : Nat} {t e : TypeId} {i : TypeInfo} {v : Value} {ts us : List (List Int)}
end
end Go.Proofs.YtkakoiaahgchmaaDoor
namespace Go.Proofs.YtkakoiaahgchmaaDoor
set_option maxRecDepth 100000
open Go.ChangeShapes Go.WideShapes Go.ChangeAt Go.RowKit
/-- a slice of texts that is the call's own; the texts lie in other blocks -/
def OwnM (w : World) (base : Nat) (e : TypeId) (v : Value) (ts : List (List Int)) : Prop :=
  ∃ xs, w.ownsRow base e 1 v ts.length xs ∧ ∀ j, j < ts.length → ∃ a l c, xs[j]? = some (.slice a l c) ∧ TextAt w a l c (ts.getD j []) ∧ (0 < l → ∀ p : Addr, a = some p → v.ownBlock ≠ some p.block)
section
variable {P : Program} {w : World} {base : Nat} {t e : TypeId} {i : TypeInfo} {v : Value} {ts us : List (List Int)}
end
end Go.Proofs.YtkakoiaahgchmaaDoor
namespace Go.Proofs.YtkakoiaahgchmaaDoor
set_option maxRecDepth 100000
open Go.ChangeShapes Go.WideShapes Go.ChangeAt Go.RowKit
theorem strOfNums_inj {xs ys : List Int} (hx : ∀ x ∈ xs, 0 ≤ x ∧ x < 256) (hy : ∀ x ∈ ys, 0 ≤ x ∧ x < 256) : strOfNums xs = strOfNums ys ↔ xs = ys := by
  constructor
  · intro h
    have key : ∀ zs : List Int, (∀ x ∈ zs, 0 ≤ x ∧ x < 256) → ((strOfNums zs).data.toList.map fun u : UInt8 => (u.toNat : Int)) = zs := fun zs hz => by
      rw [strOfNums_data, List.map_map]
      conv => rhs; rw [← List.map_id zs]
      apply List.map_congr_left
      intro z hzm
      have := hz z hzm
      simp
      omega
    rw [← key xs hx, ← key ys hy, h]
  · rintro rfl; rfl
theorem conv_str {w : World} {a : Option Addr} {len cap : Nat} {bs : List Int} (h : TextAt w a len cap bs) : ∀ x : Ext w, (convert 29 9 (.slice a len cap)).run Tryd.prog x.at_ = .ok (.string (strOfNums bs)) x.at_ :=
  fun x => (h.below x.same).string Tryd.underlying29 Tryd.underlying5 Tryd.underlying9
theorem eqStrB {xs ys : List Int} (hx : ∀ x ∈ xs, 0 ≤ x ∧ x < 256) (hy : ∀ x ∈ ys, 0 ≤ x ∧ x < 256) : ((strOfNums xs).toList == (strOfNums ys).toList) = decide (xs = ys) := by
  by_cases e : xs = ys
  · subst e; simp
  · have h : ¬ (strOfNums xs).toList = (strOfNums ys).toList := fun q => e ((strOfNums_inj hx hy).1 (by
      rw [Lib.strOfNums_toList, Lib.strOfNums_toList] at q
      exact congrArg (fun l : List UInt8 => (⟨l.toArray⟩ : ByteArray)) q))
    simp [e, h]
end Go.Proofs.YtkakoiaahgchmaaDoor
namespace Go.Proofs.YtkakoiaahgchmaaDoor
set_option maxRecDepth 100000
open Go.ChangeShapes Go.WideShapes Go.ChangeAt Go.RowKit
end Go.Proofs.YtkakoiaahgchmaaDoor
namespace Go.Proofs.YtkakoiaahgchmaaDoor
set_option maxRecDepth 100000
open Go.ChangeShapes Go.WideShapes Go.ChangeAt Go.RowKit
theorem info_text : (Tryd.prog.info? 29).map (fun i => (i.zero, i.size, i.bytes)) = some (some (.slice none 0 0), 1, 24) := by kernel_rfl
end Go.Proofs.YtkakoiaahgchmaaDoor
namespace Go.Proofs.YtkakoiaahgchmaaDoor
set_option maxRecDepth 100000
open Go.ChangeShapes Go.WideShapes Go.ChangeAt Go.RowKit
/-- the bytes of words -/
def wordBytes (xs : List Int) : List Int := xs.flatMap (be 4)
end Go.Proofs.YtkakoiaahgchmaaDoor
namespace Go.Proofs.YtkakoiaahgchmaaDoor
set_option maxRecDepth 100000
open Go.ChangeShapes Go.WideShapes Go.ChangeAt Go.RowKit
end Go.Proofs.YtkakoiaahgchmaaDoor
namespace Go.Proofs.YtkakoiaahgchmaaDoor
set_option maxRecDepth 100000
open Go.ChangeShapes Go.WideShapes Go.ChangeAt Go.RowKit
end Go.Proofs.YtkakoiaahgchmaaDoor
namespace Go.Proofs.YtkakoiaahgchmaaDoor
set_option maxRecDepth 100000
open Go.ChangeShapes Go.WideShapes Go.ChangeAt Go.RowKit
end Go.Proofs.YtkakoiaahgchmaaDoor
namespace Go.Proofs.YtkakoiaahgchmaaDoor
set_option maxRecDepth 100000
open Go.ChangeShapes Go.WideShapes Go.ChangeAt Go.RowKit
/-- a digest's bytes -/
structure Dg (xs : List Int) : Prop where
  len : xs.length = 32
  small : ∀ x ∈ xs, 0 ≤ x ∧ x < 256
@[irreducible] def fZ (key m : List Int) : List Int := sumZ (be 32 0 ++ (key ++ m))
@[irreducible] def hZ (key a b : List Int) : List Int := sumZ (be 32 1 ++ (key ++ (a ++ b)))
@[irreducible] def prfZ (key m : List Int) : List Int := sumZ (be 32 3 ++ (key ++ m))
@[irreducible] def msgZ (r root : List Int) (index : Int) (m : List Int) : List Int := sumZ (be 32 2 ++ (r ++ (root ++ (be 32 index ++ m))))
theorem Dg.sum (bs : List Int) : Dg (sumZ bs) := ⟨sumZ_length _, sumZ_small _⟩
/-- what 'wide' hands back -/
def WideAt (n : Int) (v : Value) (w : World) : Prop := ∃ g, v = .slice (some ⟨g, 0, none⟩) 32 32 ∧ Blk w g ((be 32 n).map (Value.int .u8)).toArray 5
theorem Dg.text {xs : List Int} (h : Dg xs) {w : World} {g : Nat} {T : TypeId} (k : Blk w g (xs.map (Value.int .u8)).toArray T) : TextAt w (some ⟨g, 0, none⟩) 32 32 xs := TextAt.of_ints k h.len (by omega) h.small
theorem Dg.size {xs : List Int} (h : Dg xs) : ((xs.map (Value.int .u8)).toArray).size = 32 := dsize h.len
end Go.Proofs.YtkakoiaahgchmaaDoor
namespace Go.Proofs.YtkakoiaahgchmaaDoor
set_option maxRecDepth 100000
open Go.ChangeShapes Go.WideShapes Go.ChangeAt Go.RowKit
/-- an address's words -/
structure Aw (xs : List Int) : Prop where
  len : xs.length = 8
  small : ∀ x ∈ xs, 0 ≤ x ∧ x < 4294967296
@[irreducible] def atZ (key ad : List Int) : List Int := prfZ key (wordBytes ad)
/-- what 'adrs.Bytes' hands back -/
def BytesAt (ad : List Int) (v : Value) (w : World) : Prop := ∃ g cap, v = .slice (some ⟨g, 0, none⟩) 32 cap ∧ 32 ≤ cap ∧ cap ≤ 9223372036854775807 ∧ Row8 w g (wordBytes ad)
/-- byte by byte exclusive-ored -/
def xorD (a b : List Int) : List Int := a.zipWith xorZ b
end Go.Proofs.YtkakoiaahgchmaaDoor
namespace Go.Proofs.YtkakoiaahgchmaaDoor
set_option maxRecDepth 100000
open Go.ChangeShapes Go.WideShapes Go.ChangeAt Go.RowKit
end Go.Proofs.YtkakoiaahgchmaaDoor
namespace Go.Proofs.YtkakoiaahgchmaaDoor
set_option maxRecDepth 100000
open Go.ChangeShapes Go.WideShapes Go.ChangeAt Go.RowKit
/-- what an append may write to: the row, if it is a text of the call's own -/
theorem OwnB.typed {w w' : World} {B base : Nat} {e : TypeId} {v : Value} {bs : List Int} (h : OwnB w base e v bs) (hB : B ≤ base) (hg : w.grownBy w' v.ownBlock) : FlowB.Typed B e w w' :=
  FlowB.Typed.of_grown hg fun q hq => by
    refine ⟨Nat.le_trans hB (h.lt q hq).1, ?_⟩
    obtain ⟨⟨_, ⟨h, _⟩ | ⟨g, cap, cur, he, _, hh, _⟩⟩, _⟩ := h
    · rw [h] at hq; cases hq
    · rw [he] at hq
      simp only [Value.ownBlock, Option.some.injEq] at hq
      subst hq
      exact ⟨_, _, hh⟩
end Go.Proofs.YtkakoiaahgchmaaDoor
namespace Go.Proofs.YtkakoiaahgchmaaDoor
set_option maxRecDepth 100000
open Go.ChangeShapes Go.WideShapes Go.ChangeAt Go.RowKit
/-- an empty slice of bytes that the call made -/
def EmptyAt (B : Nat) (v : Value) : Prop := ∃ g, v = .slice (some ⟨g, 0, none⟩) 0 0 ∧ B ≤ g
def EmptyIn (v : Value) (w : World) : Prop := ∀ g, v = .slice (some ⟨g, 0, none⟩) 0 0 → Blk w g #[] 5
end Go.Proofs.YtkakoiaahgchmaaDoor
namespace Go.Proofs.YtkakoiaahgchmaaDoor
set_option maxRecDepth 100000
open Go.ChangeShapes Go.WideShapes Go.ChangeAt Go.RowKit
def zD : List Int := List.replicate 32 0
theorem Dg.zero : Dg zD := ⟨by simp [zD], fun x hx => by have := List.eq_of_mem_replicate hx; omega⟩
end Go.Proofs.YtkakoiaahgchmaaDoor
namespace Go.Proofs.YtkakoiaahgchmaaDoor
set_option maxRecDepth 100000
open Go.ChangeShapes Go.WideShapes Go.ChangeAt Go.RowKit
/-- an address with its last three words -/
def setAd (ad : List Int) (f s p : Int) : List Int := ad.take 5 ++ [f, s, p]
/-- a step of a chain -/
@[irreducible] def stepZ (pub ad x : List Int) (j : Nat) : List Int := fZ (atZ pub (setAd ad (ad.getD 5 0) j 0)) (xorD x (atZ pub (setAd ad (ad.getD 5 0) j 1)))
def runZ (pub ad x : List Int) (frm : Nat) : Nat → List Int
  | 0 => x
  | n + 1 => stepZ pub ad (runZ pub ad x frm n) (frm + n)
end Go.Proofs.YtkakoiaahgchmaaDoor
namespace Go.Proofs.YtkakoiaahgchmaaDoor
set_option maxRecDepth 100000
open Go.ChangeShapes Go.WideShapes Go.ChangeAt Go.RowKit
end Go.Proofs.YtkakoiaahgchmaaDoor
namespace Go.Proofs.YtkakoiaahgchmaaDoor
set_option maxRecDepth 100000
open Go.ChangeShapes Go.WideShapes Go.ChangeAt Go.RowKit
end Go.Proofs.YtkakoiaahgchmaaDoor
namespace Go.Proofs.YtkakoiaahgchmaaDoor
set_option maxRecDepth 100000
open Go.ChangeShapes Go.WideShapes Go.ChangeAt Go.RowKit
section
variable {H : Type} {enc : TypeId × Value → H} {P : Program}
theorem trodAll_below (hl : laidOutB P = true) {W W' : World} (hb : Below W.heap.size W W') : ∀ (ts : List TypeId) (vs : List Value) (ds : List (DataW H)) (ps : List MemPlace),
    (ts.all fun t => P.readableRec t && decide (t < P.types.size)) = true → DataW.TrodAll enc P W 0 (fun _ => true) true ts vs ds ps →
    DataW.TrodAll enc P W' 0 (fun b => decide (b < W.heap.size)) true ts vs ds ps
  | [], _, _, _, _, h => by
    obtain ⟨rfl, rfl, rfl⟩ := trodAll_nil h
    exact trodAll_mk0
  | t :: ts, _, _, _, hall, h => by
    simp only [List.all_cons, Bool.and_eq_true, decide_eq_true_eq] at hall
    obtain ⟨⟨hr, ht⟩, hall⟩ := hall
    obtain ⟨v, vs, d, ds, p, q, rfl, rfl, rfl, h0, r0⟩ := trodAll_cons h
    have lt0 : ∀ x ∈ p, x.block < W.heap.size := by obtain ⟨m, hm⟩ := h0; exact DataW.trod_lt m _ _ _ hm
    exact trodAll_cons_mk (Below.trod hl hr ht h0 hb lt0) (trodAll_below hl hb ts vs ds q (by simpa using hall) r0)
theorem trodAll_length {W : World} {base : Nat} {sp : Nat → Bool} {hd : Bool} : ∀ (ts : List TypeId) (vs : List Value) (ds : List (DataW H)) (ps : List MemPlace), DataW.TrodAll enc P W base sp hd ts vs ds ps → ds.length = ts.length
  | [], _, _, _, h => by
    obtain ⟨rfl, rfl, rfl⟩ := trodAll_nil h
    rfl
  | t :: ts, _, _, _, h => by
    obtain ⟨v, vs, d, ds, p, q, rfl, rfl, rfl, _, r0⟩ := trodAll_cons h
    simp [trodAll_length ts vs ds q r0]
end
end Go.Proofs.YtkakoiaahgchmaaDoor
namespace Go.Proofs.YtkakoiaahgchmaaDoor
set_option maxRecDepth 100000
open Go.ChangeShapes Go.WideShapes Go.ChangeAt Go.RowKit
theorem trodAll_six {H : Type} {enc : TypeId × Value → H} {P : Program} {w : World} {base : Nat} {spare : Nat → Bool} {held : Bool} {t0 t1 t2 t3 t4 t5 : TypeId} {args : Array Value} {ds : List (DataW H)} {ps : List MemPlace} (h : DataW.TrodAll enc P w base spare held [t0, t1, t2, t3, t4, t5] args.toList ds ps) :
    ∃ v0 v1 v2 v3 v4 v5 d0 d1 d2 d3 d4 d5 p0 p1 p2 p3 p4 p5, args = #[v0, v1, v2, v3, v4, v5] ∧ ds = [d0, d1, d2, d3, d4, d5] ∧ ps = p0 ++ p1 ++ p2 ++ p3 ++ p4 ++ p5 ∧ DataW.Trod enc P w base spare held t0 v0 d0 p0 ∧ DataW.Trod enc P w base spare held t1 v1 d1 p1 ∧ DataW.Trod enc P w base spare held t2 v2 d2 p2 ∧ DataW.Trod enc P w base spare held t3 v3 d3 p3 ∧ DataW.Trod enc P w base spare held t4 v4 d4 p4 ∧ DataW.Trod enc P w base spare held t5 v5 d5 p5 := by
  obtain ⟨v0, vs0, d0, ds0, p0, q0, hargs, rfl, rfl, hd0, h0⟩ := trodAll_cons h
  obtain ⟨v1, vs1, d1, ds1, p1, q1, rfl, rfl, rfl, hd1, h1⟩ := trodAll_cons h0
  obtain ⟨v2, vs2, d2, ds2, p2, q2, rfl, rfl, rfl, hd2, h2⟩ := trodAll_cons h1
  obtain ⟨v3, vs3, d3, ds3, p3, q3, rfl, rfl, rfl, hd3, h3⟩ := trodAll_cons h2
  obtain ⟨v4, vs4, d4, ds4, p4, q4, rfl, rfl, rfl, hd4, h4⟩ := trodAll_cons h3
  obtain ⟨v5, vs5, d5, ds5, p5, q5, rfl, rfl, rfl, hd5, h5⟩ := trodAll_cons h4
  obtain ⟨rfl, rfl, rfl⟩ := trodAll_nil h5
  exact ⟨v0, v1, v2, v3, v4, v5, d0, d1, d2, d3, d4, d5, p0, p1, p2, p3, p4, p5, by cases args; simp_all, rfl, by simp, hd0, hd1, hd2, hd3, hd4, hd5⟩
end Go.Proofs.YtkakoiaahgchmaaDoor
namespace Go.Proofs.YtkakoiaahgchmaaDoor
set_option maxRecDepth 100000
open Go.ChangeShapes Go.WideShapes Go.ChangeAt Go.RowKit
theorem ownNone : ownKnob Tryd.prog.godebug = none := by kernel_rfl
theorem laidAll : laidOutB Tryd.prog = true := by kernel_rfl
theorem gStart : Tryd.prog.globalNamed "planchet/sha.start" = some 0 := by kernel_rfl
theorem gKeys : Tryd.prog.globalNamed "planchet/sha.constants" = some 1 := by kernel_rfl
theorem gtStart : (Tryd.prog.globals[0]?).map (·.type) = some 112 := by kernel_rfl
theorem gtKeys : (Tryd.prog.globals[1]?).map (·.type) = some 127 := by kernel_rfl
/-- what the rows list -/
abbrev laid2 : List (String × DataW Unit) := [("planchet/sha.start", Rows.laid_planchet_sha_start), ("planchet/sha.constants", Rows.laid_planchet_sha_constants)]
def startZ : List Int := [Sha.start.a, Sha.start.b, Sha.start.c, Sha.start.d, Sha.start.e, Sha.start.f, Sha.start.g, Sha.start.h].map fun x : Nat => (x : Int)
def keysZ : List Int := Sha.keys.map fun x : Nat => (x : Int)
theorem start_tab : (Rows.laid_planchet_sha_start : DataW Unit) = Lib.tabData .u32 startZ := by kernel_rfl
theorem keys_tab : (Rows.laid_planchet_sha_constants : DataW Unit) = Lib.tabData .u32 keysZ := by kernel_rfl
theorem tab_of_laid {W : World} (h : laidMetH Tryd.prog laid2 W) : ShaTab W := by
  rw [MakeChecks.laidMetH_plain _ _ _ (by kernel_rfl)] at h
  have h' : laidMet Tryd.prog (("planchet/sha.start", Lib.tabData .u32 startZ) :: [("planchet/sha.constants", Lib.tabData .u32 keysZ)]) W := by
    rw [← start_tab, ← keys_tab]
    exact h
  have hS := Lib.tabIs_of_head gStart gtStart Tryd.underlying112 Tryd.underlying103 (by kernel_rfl) (by kernel_rfl) h'
  have hK := Lib.tabIs_of_head gKeys gtKeys Tryd.underlying127 Tryd.underlying103 (by kernel_rfl) (by kernel_rfl) h'.tail
  have cS := fun i hi => hS.cell gStart i hi
  have cK := fun i hi => hK.cell gKeys i hi
  have hlS : startZ.length = 8 := rfl
  have hlK : keysZ.length = 64 := by simp [keysZ, Sha.keys]
  refine ⟨World.block_lt_of_cell? W _ (cK 0 (by omega)), World.block_lt_of_cell? W _ (cS 0 (by omega)), fun j hj => ?_, ?_⟩
  · rw [cK j (by omega)]
    have hj' : j < Sha.keys.length := by simpa [keysZ] using (show j < keysZ.length by omega)
    simp [keysZ, hj']
  · exact ⟨cS 0 (by omega), cS 1 (by omega), cS 2 (by omega), cS 3 (by omega), cS 4 (by omega), cS 5 (by omega), cS 6 (by omega), cS 7 (by omega)⟩
/-- the door's own heap meets the condition -/
theorem door_met (os : Os) (args : Array Value) : laidMetH Tryd.prog laid2 ((World.doorLaid Tryd.prog 19 os).forCall (fun _ _ => 0) ⟨#[], args, []⟩).memory :=
  laidMetH_of_parts3 (fuel := 8) (laidMet_of_run' 8 (by kernel_rfl) (by kernel_rfl)) (by kernel_rfl) (by kernel_rfl)
/-- From the walk to what the row's builder asks, with the form's reach and the tables. -/
theorem lift_tied {H : Type} {enc : TypeId × Value → H} {os : Os} {f : FuncId} {fn : Func} {s : ChangeSpec} {conds : List PathCond} {tb : TypeId}
    (started : os.Started) (noInit : Tryd.prog.inits.idxOf? f = none) (hfn : Tryd.prog.funcs[f]? = some fn)
    (hvars : s.vars = []) (hts : (fn.params.toList.all fun t => Tryd.prog.readableRec t && decide (t < Tryd.prog.types.size)) = true)
    (hrt : fn.resultTypes = #[tb]) (htb : Tryd.prog.underlying tb = some .bool)
    (hs : ∀ ds : List (DataW H), ds.length = fn.params.toList.length → (s.fn H (ds ++ [])).results = [.lit (.bool true)] ∧ (s.fn H (ds ++ [])).args = ds ∧ (s.fn H (ds ++ [])).vars = [])
    (witness : ∃ (w : World) (tape : Tape) (i : Input), w.os = os ∧ (w.forCall tape i).Shaped Tryd.checked.prog ∧ i.vars = [] ∧ Input.okWide Tryd.checked.prog (w.forCall tape i) .any w.heap.size f i ∧
      ((s.pre enc Tryd.checked.prog fn conds false (w.forCall tape i).memory i.args ∧ laidMetH Tryd.prog laid2 (w.forCall tape i).memory) ∧ sizedMet enc Tryd.checked.prog fn (OpenSpec.ofChange s) false (w.forCall tape i).memory i.args) ∧ Assume.holds {} Tryd.checked.prog (lone (Frame.enter Tryd.checked.prog f i.args .normal) [] (w.forCall tape i)))
    (walk : ∀ (W : World) (base : Nat) (args : Array Value) (ds : List (DataW H)) (p : List MemPlace),
      (∀ (j : Nat) t v, fn.params[j]? = some t → args[j]? = some v → Value.okWide Tryd.prog W .any base t v) →
      DataW.TrodAll enc Tryd.prog W 0 (fun _ => true) true fn.params.toList args.toList ds p →
      (DataW.weightsEach Tryd.prog fn.params.toList ds).all (· ≤ reachBytes) = true → ShaTab W →
      Calls Tryd.prog f args W fun e W' => e = .returned (.bool true) ∧ Below W.heap.size W W') :
    ReturnsInHanded {} Tryd.checked os f .any (fun w args => (s.pre enc Tryd.prog fn conds false w args ∧ laidMetH Tryd.prog laid2 w) ∧ sizedMet enc Tryd.prog fn (OpenSpec.ofChange s) false w args) (s.post enc Tryd.prog fn false true false false) := by
  refine returnsInHanded_of_change_and (C := Tryd.checked) (X := fun w _ => laidMetH Tryd.prog laid2 w) (fun _ _ _ hh h => h.of_heap hh) ownNone started noInit hfn witness ?_
  intro W base args ds gs before hval hW _ hsz hL _
  have hW' := hW
  obtain ⟨p, q, hA, hV, rfl, hfz, hnd⟩ := hW
  rw [hvars] at hV
  obtain ⟨rfl, rfl⟩ := trodVars_none hV
  have hsz : (DataW.weightsEach Tryd.prog fn.params.toList ds).all (· ≤ reachBytes) = true := by
    have e1 : s.plain.varTypes Tryd.checked.prog = [] := by
      simp [DataSpec.varTypes, ChangeSpec.plain, hvars]
    rw [e1, List.append_nil, List.append_nil] at hsz
    exact hsz
  refine (walk W base args ds p hval hA hsz (tab_of_laid hL)).mono fun e W' ⟨he, bel⟩ => ?_
  subst he
  obtain ⟨h1, h2, h3⟩ := hs ds (trodAll_length _ _ _ _ hA)
  refine ⟨_, rfl, ds, [], p ++ [], [], p, [], hW', ?_, ?_, ?_, bel.frame _, fun h => by cases h⟩
  · rw [h1, hrt]
    exact trodAll_mk1 (shut_bool htb _)
  · rw [h2]
    exact trodAll_below laidAll bel _ _ _ _ hts hA
  · rw [h3, hvars]
    exact rfl
end Go.Proofs.YtkakoiaahgchmaaDoor
namespace Go.Proofs.YtkakoiaahgchmaaDoor
set_option maxRecDepth 100000
open Go.ChangeShapes Go.WideShapes Go.ChangeAt Go.RowKit
/-- the digits of the bytes -/
def dig (ds : List Int) : List Int := ds.flatMap fun x => [x / 16, x % 16]
def rowOf (ds : List Int) (k : Nat) : List Int := dig (ds.take k) ++ List.replicate (67 - 2 * k) 0
def lacks (zs : List Int) : Int := zs.foldl (fun s x => wrap64 (s + wrap64 (15 - x))) 0
/-- what numbers from 0 to 15 lack, without a wrap -/
def short (zs : List Int) : Int := (zs.map (15 - ·)).sum
/-- the digits of a digest -/
def digits (ds : List Int) : List Int := dig ds ++ [short (dig ds) / 16 / 16 % 16, short (dig ds) / 16 % 16, short (dig ds) % 16]
end Go.Proofs.YtkakoiaahgchmaaDoor
namespace Go.Proofs.YtkakoiaahgchmaaDoor
set_option maxRecDepth 100000
open Go.ChangeShapes Go.WideShapes Go.ChangeAt Go.RowKit
end Go.Proofs.YtkakoiaahgchmaaDoor
namespace Go.Proofs.YtkakoiaahgchmaaDoor
set_option maxRecDepth 100000
open Go.ChangeShapes Go.WideShapes Go.ChangeAt Go.RowKit
/-- a row of 32 numbers each, laid flat -/
theorem flat_length {ds : List (List Int)} (h : ∀ d ∈ ds, d.length = 32) : ds.flatten.length = ds.length * 32 := by
  induction ds with
  | nil => rfl
  | cons d ds ih =>
    rw [List.flatten_cons, List.length_append, ih fun x hx => h x (List.mem_cons_of_mem _ hx), h d (List.mem_cons_self ..), List.length_cons]
    omega
theorem flat_at {ds : List (List Int)} (h : ∀ d ∈ ds, d.length = 32) : ∀ (j k : Nat), j < ds.length → k < 32 → ds.flatten[j * 32 + k]? = (ds.getD j [])[k]? := by
  induction ds with
  | nil => intro j k hj; simp at hj
  | cons d ds ih =>
    intro j k hj hk
    have hd := h d (List.mem_cons_self ..)
    rw [List.flatten_cons]
    cases j with
    | zero =>
      rw [List.getElem?_append_left (by omega)]
      simp
    | succ j =>
      rw [List.getElem?_append_right (by omega), hd, show (j + 1) * 32 + k - 32 = j * 32 + k by omega, ih (fun x hx => h x (List.mem_cons_of_mem _ hx)) j k (by simpa using hj) hk]
      simp
theorem flat_set {ds : List (List Int)} (h : ∀ d ∈ ds, d.length = 32) (x : List Int) (hx : x.length = 32) : ∀ (j : Nat), j < ds.length → splice ds.flatten (j * 32) x = (ds.set j x).flatten := by
  induction ds with
  | nil => intro j hj; simp at hj
  | cons d ds ih =>
    intro j hj
    have hd := h d (List.mem_cons_self ..)
    cases j with
    | zero =>
      unfold splice
      simp [hx, hd]
    | succ j =>
      have := ih (fun x hx => h x (List.mem_cons_of_mem _ hx)) j (by simpa using hj)
      unfold splice at this ⊢
      rw [List.set_cons_succ, List.flatten_cons, List.flatten_cons, ← this]
      rw [List.take_append, List.drop_append, hd, List.take_of_length_le (by omega), show (j + 1) * 32 - 32 = j * 32 by omega, List.drop_eq_nil_of_le (by omega), List.nil_append, show (j + 1) * 32 + x.length - 32 = j * 32 + x.length by omega, List.append_assoc]
/-- the cells of a row of digests -/
def dcs (ds : List (List Int)) : Array Value := (ds.flatten.map (Value.int .u8)).toArray
theorem dcs_size {ds : List (List Int)} (h : ∀ d ∈ ds, d.length = 32) : (dcs ds).size = ds.length * 32 := by
  unfold dcs
  rw [List.size_toArray, List.length_map, flat_length h]
theorem dcs_get (ds : List (List Int)) (j : Nat) : (dcs ds)[j]? = (ds.flatten[j]?).map (Value.int .u8) := by
  unfold dcs
  rw [List.getElem?_toArray, List.getElem?_map]
theorem Dg.lens {ds : List (List Int)} (h : ∀ d ∈ ds, Dg d) : ∀ d ∈ ds, d.length = 32 := fun d hd => (h d hd).len
theorem Dg.getD {ds : List (List Int)} (h : ∀ d ∈ ds, Dg d) {j : Nat} (hj : j < ds.length) : Dg (ds.getD j []) := by
  rw [List.getD_eq_getElem?_getD, List.getElem?_eq_getElem hj]
  exact h _ (List.getElem_mem hj)
/-- Digests, in memory that was there. -/
structure DigsAt (w : World) (a : Option Addr) (len cap : Nat) (ds : List (List Int)) : Prop where
  length : ds.length = len
  le : len ≤ cap
  max : cap ≤ 9223372036854775807
  each : ∀ d ∈ ds, Dg d
  mem : (a = none ∧ len = 0 ∧ cap = 0) ∨ ∃ x o s, a = some ⟨x, o, s⟩ ∧ ∀ j, j < len → s = none ∧ x < w.heap.size ∧ w.rangeAt x (o + j * 32) ((ds.getD j []).map (Value.int .u8))
theorem rangeAt_below {w w' : World} {x o : Nat} {cs : List Value} (h : w.rangeAt x o cs) (hx : x < w.heap.size) (hb : Below w.heap.size w w') : w'.rangeAt x o cs := fun j v hv => by
  rw [hb.cell (p := ⟨x, o + j, none⟩) hx]; exact h j v hv
theorem DigsAt.below {w w' : World} {a : Option Addr} {len cap : Nat} {ds : List (List Int)} (h : DigsAt w a len cap ds) (hb : Below w.heap.size w w') : DigsAt w' a len cap ds := by
  obtain ⟨h1, h2, h3, h4, h | ⟨x, o, s, rfl, hc⟩⟩ := h
  · exact ⟨h1, h2, h3, h4, .inl h⟩
  · refine ⟨h1, h2, h3, h4, .inr ⟨x, o, s, rfl, fun j hj => ?_⟩⟩
    obtain ⟨q0, q1, q2⟩ := hc j hj
    exact ⟨q0, Nat.lt_of_lt_of_le q1 hb.size, rangeAt_below q2 q1 hb⟩
theorem DigsAt.nil (w : World) : DigsAt w none 0 0 [] := ⟨rfl, Nat.le_refl _, by omega, by simp, .inl ⟨rfl, rfl, rfl⟩⟩
theorem DigsAt.at_ {w : World} {a : Option Addr} {len cap : Nat} {ds : List (List Int)} (h : DigsAt w a len cap ds) (h0 : 0 < len) : ∃ x o, a = some ⟨x, o, none⟩ ∧ x < w.heap.size ∧ ∀ j, j < len → w.rangeAt x (o + j * 32) ((ds.getD j []).map (Value.int .u8)) := by
  obtain ⟨h1, h2, h3, h4, ⟨_, h, _⟩ | ⟨x, o, s, rfl, hc⟩⟩ := h
  · omega
  · obtain ⟨rfl, hx, _⟩ := hc 0 h0
    exact ⟨x, o, rfl, hx, fun j hj => (hc j hj).2.2⟩
theorem DigsAt.get {w : World} {a : Option Addr} {len cap : Nat} {ds : List (List Int)} (h : DigsAt w a len cap ds) {j : Nat} (hj : j < len) : Dg (ds.getD j []) := Dg.getD h.each (by rw [h.length]; exact hj)
/-- A block of digests, laid flat. -/
theorem Blk.digs {w : World} {g : Nat} {ds : List (List Int)} {T : TypeId} (h : Blk w g (dcs ds) T) (hd : ∀ d ∈ ds, Dg d) : ∀ j, j < ds.length → w.rangeAt g (j * 32) ((ds.getD j []).map (Value.int .u8)) := fun j hj k v hv => by
  have hk : k < 32 := by
    have := (List.getElem?_eq_some_iff.1 hv).1
    simp only [List.length_map, (Dg.getD hd hj).len] at this
    exact this
  rw [h.cell, dcs_get, flat_at (Dg.lens hd) j k hj hk]
  rw [List.getElem?_map] at hv
  exact hv
/-- A digest is stored to a row. -/
theorem Blk.set_dig {w : World} {g : Nat} {ds : List (List Int)} {T : TypeId} (h : Blk w g (dcs ds) T) (hd : ∀ d ∈ ds, Dg d) {x : List Int} (hx : Dg x) {j : Nat} (hj : j < ds.length) :
    Blk (w.setCells g (j * 32) (x.map (Value.int .u8))) g (dcs (ds.set j x)) T := by
  have hl := flat_length (Dg.lens hd)
  unfold dcs at h ⊢
  have h0 : Blk w g (([] : List Value) ++ (ds.flatten.map (Value.int .u8) ++ [])).toArray T := by simpa using h
  have h1 := Blk.setCells [] (ds.flatten.map (Value.int .u8)) [] (j * 32) (x.map (Value.int .u8)) h0 (by simp only [List.length_map, hl, hx.len]; omega)
  have e : (([] : List Value) ++ (splice (ds.flatten.map (Value.int .u8)) (j * 32) (x.map (Value.int .u8)) ++ [])) = (ds.set j x).flatten.map (Value.int .u8) := by
    rw [← flat_set (Dg.lens hd) x hx.len j hj]
    simp [splice]
  rw [e] at h1
  simpa using h1
theorem digest_cells {H : Type} {enc : TypeId × Value → H} {P : Program} {W : World} {base : Nat} {spare : Nat → Bool} {held : Bool} {n : Nat} {e q : TypeId} {cs : List Value} {x : DataW H × List MemPlace} (he : P.underlying e = some (.array 32 q)) (hq : P.underlying q = some (.int .u8))
    (ce : P.cellsOf e = 32) (cq : P.cellsOf q = 1) (h : DataW.trod enc P W base spare held n e cs = some x) : ∃ d : List Int, Dg d ∧ cs = d.map (Value.int .u8) := by
  obtain ⟨ys, m, _, _, hl, hyl, hel⟩ := DataW.trod_array he h
  rw [ce] at hl
  have key : ∀ (j : Nat), j < 32 → ∃ x : Int, cs[j]? = some (.int .u8 x) ∧ (Lit.int .u8 x).wf = true := by
    intro j hj
    have h1 := hel j hj
    have hjl : j < cs.length := by omega
    rw [cq, Nat.mul_one] at h1
    obtain ⟨y, hy⟩ : ∃ y, ys[j]? = some y := ⟨_, List.getElem?_eq_getElem (by omega)⟩
    rw [hy] at h1
    have e1 : (cs.drop j).take 1 = [cs[j]] := by
      rw [List.drop_eq_getElem_cons hjl, List.take_succ_cons, List.take_zero]
    rw [e1] at h1
    obtain ⟨a, e0, _, wa⟩ := DataW.trod_int hq h1
    simp only [List.cons.injEq, and_true] at e0
    exact ⟨a, by rw [List.getElem?_eq_getElem hjl, e0], wa⟩
  refine ⟨cs.map fun v => match v with | .int _ x => x | _ => 0, ⟨by simp; omega, ?_⟩, ?_⟩
  · intro x hx
    simp only [List.mem_map] at hx
    obtain ⟨v, hv, rfl⟩ := hx
    obtain ⟨j, hj, rfl⟩ := List.getElem_of_mem hv
    obtain ⟨x, hx, hw⟩ := key j (by omega)
    rw [List.getElem?_eq_getElem hj] at hx
    rw [Option.some.inj hx]
    exact wf_u8 hw
  · apply List.ext_getElem?
    intro j
    rcases Nat.lt_or_ge j 32 with hj | hj
    · obtain ⟨x, hx, _⟩ := key j hj
      simp [hx]
    · rw [List.getElem?_eq_none (by omega), List.getElem?_eq_none (by simp; omega)]
/-- Digests that come in. -/
theorem open_digs {H : Type} {enc : TypeId × Value → H} {P : Program} {W : World} {base : Nat} {t e q : TypeId} {v : Value} {d : DataW H} {p : List MemPlace} (hu : P.underlying t = some (.slice e)) (he : P.underlying e = some (.array 32 q)) (hq : P.underlying q = some (.int .u8))
    (ce : P.cellsOf e = 32) (cq : P.cellsOf q = 1) (hv : Value.okWide P W .any base t v) (h : DataW.Trod enc P W 0 (fun _ => true) true t v d p) :
    ∃ (a : Option Addr) (len cap : Nat) (ds : List (List Int)), v = .slice a len cap ∧ DigsAt W a len cap ds := by
  obtain ⟨a, len, cap, rfl⟩ := okWide_slice hu hv
  obtain ⟨fuel, hf⟩ := h
  rcases Go.Deep.open_slice hu hf with ⟨hcs, _⟩ | ⟨x, l, c, m, n, D, Pl, hcs, _, hl, hm, hmm, _, hall⟩
  · simp [Value.cells] at hcs
    obtain ⟨rfl, rfl, rfl⟩ := hcs
    exact ⟨none, 0, 0, [], rfl, DigsAt.nil W⟩
  · simp [Value.cells] at hcs
    obtain ⟨rfl, rfl, rfl⟩ := hcs
    obtain ⟨b, off, s⟩ := x
    simp only [if_true] at hmm
    have hall' : ∀ i, i < cap → ∃ dd : List Int, Dg dd ∧ W.cells? 0 ((⟨b, off, s⟩ : Addr).add (i * 32)) 32 = some (dd.map (Value.int .u8)) := fun i hi => by
      obtain ⟨cs', h1, h2⟩ := hall i (by omega)
      rw [ce] at h1
      obtain ⟨dd, h3, rfl⟩ := digest_cells he hq ce cq h2
      exact ⟨dd, h3, h1⟩
    let f : Nat → List Int := fun i => if h : i < cap then Classical.choose (hall' i h) else []
    have hf : ∀ i, i < cap → Dg (f i) ∧ W.cells? 0 ((⟨b, off, s⟩ : Addr).add (i * 32)) 32 = some ((f i).map (Value.int .u8)) := fun i hi => by
      simp only [f, hi, dif_pos]
      exact Classical.choose_spec (hall' i hi)
    refine ⟨_, len, cap, (List.range len).map f, rfl, ⟨by simp, hl, by unfold maxLen at hm; omega, fun d hd => ?_, .inr ⟨b, off, s, rfl, fun i hi => ?_⟩⟩⟩
    · simp only [List.mem_map, List.mem_range] at hd
      obtain ⟨i, hi, rfl⟩ := hd
      exact (hf i (by omega)).1
    · have hc := (World.cells?_some (hf i (by omega)).2).2.2
      have h0 := (World.cells?_some (hf 0 (by omega)).2).2.2 0 (by omega)
      have hl0 := (hf 0 (by omega)).1.len
      have hli := (hf i (by omega)).1.len
      rw [List.getElem?_map, List.getElem?_eq_getElem (by omega)] at h0
      have hs : s = none := by
        have := World.cell?_spot h0
        simpa [Addr.add] using this
      subst hs
      have hx : b < W.heap.size := by
        rw [Addr.add_mid, Addr.add_mid] at h0
        exact World.block_lt_of_cell? W _ h0
      refine ⟨rfl, hx, fun k v hv => ?_⟩
      have e : ((List.range len).map f).getD i [] = f i := by simp [hi]
      rw [e] at hv
      have hk : k < 32 := by
        have := (List.getElem?_eq_some_iff.1 hv).1
        simp only [List.length_map, hli] at this
        exact this
      have := hc k hk
      rw [Addr.add_mid, Addr.add_mid] at this
      rw [this]
      exact hv
/-- A row of digests of the call's own. -/
structure OwnD (w : World) (base : Nat) (e : TypeId) (v : Value) (ds : List (List Int)) : Prop where
  row : w.ownsRow base e 32 v ds.length (ds.flatten.map (Value.int .u8))
  each : ∀ d ∈ ds, Dg d
theorem OwnD.nil (w : World) (base : Nat) (e : TypeId) : OwnD w base e (.slice none 0 0) [] := ⟨World.ownsRow_nil w base e 32, by simp⟩
theorem OwnD.below {w w' : World} {base : Nat} {e : TypeId} {v : Value} {ds : List (List Int)} (h : OwnD w base e v ds) (hb : Below w.heap.size w w') : OwnD w' base e v ds := ⟨owns_below h.row hb, h.each⟩
theorem OwnD.lt {w : World} {base : Nat} {e : TypeId} {v : Value} {ds : List (List Int)} (h : OwnD w base e v ds) : ∀ k, v.ownBlock = some k → base ≤ k ∧ k < w.heap.size := h.row.lt
theorem OwnD.re {w : World} {base base' : Nat} {e : TypeId} {v : Value} {ds : List (List Int)} (h : OwnD w base e v ds) (hb : base' ≤ base) : OwnD w base' e v ds := by
  obtain ⟨⟨h1, h2⟩, h3⟩ := h
  refine ⟨⟨h1, h2.imp id ?_⟩, h3⟩
  rintro ⟨g, cap, cur, rfl, hg, hh⟩
  exact ⟨g, cap, cur, rfl, Nat.le_trans hb hg, hh⟩
theorem OwnD.digs {w : World} {base : Nat} {e : TypeId} {v : Value} {ds : List (List Int)} (h : OwnD w base e v ds) : ∃ a cap, v = .slice a ds.length cap ∧ DigsAt w a ds.length cap ds ∧ (a = none ∨ ∃ g, a = some ⟨g, 0, none⟩ ∧ base ≤ g) := by
  obtain ⟨⟨h1, ⟨rfl, h2⟩ | ⟨g, cap, cur, rfl, hg, hh, hle, hmx, hsz, htk⟩⟩, h3⟩ := h
  · obtain rfl := List.eq_nil_of_length_eq_zero h2
    exact ⟨none, 0, rfl, DigsAt.nil w, .inl rfl⟩
  · refine ⟨_, cap, rfl, ⟨rfl, hle, by unfold maxLen at hmx; omega, h3, .inr ⟨g, 0, none, rfl, fun j hj => ⟨rfl, (Array.getElem?_eq_some_iff.1 hh).1, fun k v hv => ?_⟩⟩⟩, .inr ⟨g, rfl, hg⟩⟩
    have hk : k < 32 := by
      have := (List.getElem?_eq_some_iff.1 hv).1
      simp only [List.length_map, (Dg.getD h3 hj).len] at this
      exact this
    have hb : Blk w g cur e := hh
    rw [Nat.zero_add, hb.cell]
    have : (cur.toList.take (ds.length * 32))[j * 32 + k]? = some v := by
      rw [htk, List.getElem?_map, flat_at (Dg.lens h3) j k hj hk, ← List.getElem?_map]
      exact hv
    rw [List.getElem?_take_of_lt (by omega)] at this
    simpa using this
section
variable {P : Program} {w : World} {base : Nat} {t e : TypeId} {i : TypeInfo} {v z : Value} {ds : List (List Int)}
/-- One digest more. -/
theorem run_append_dig (ty : TypeId) (ht : P.underlying t = some (.slice e)) (hi : P.info? e = some i) (hz : i.zero = some z) (hzs : z.cells.size = 32) (hsize : i.size = 32) (hby : i.bytes = 32) (hown : OwnD w base e v ds)
    {b : Nat} {x : List Int} {T : TypeId} (hk : Blk w b (x.map (Value.int .u8)).toArray T) (hx : Dg x) (hb : ds.length ≤ 4000000000000) (hbase : base ≤ w.heap.size) :
    ∃ v' w', (Builtin.append_ #[t, t] ty #[v, .slice (some ⟨b, 0, none⟩) 1 1]).run P w = .ok v' w' ∧ OwnD w' base e v' (ds ++ [x]) ∧ w.grownBy w' v.ownBlock ∧ Below base w w' := by
  have hbel : ∀ {w' : World}, w.grownBy w' v.ownBlock → Below base w w' := fun hg => ⟨hg.os, hg.tape, hg.output, hg.size, fun k hk => hg.block k (by omega) (fun e => by have := (hown.lt k e.symm).1; omega)⟩
  obtain ⟨v', w', h1, h2, h3, _⟩ := run_append_own (P := P) w base t ty e i z 32 32 ht hi hz hsize hby hzs (by omega) v ds.length _ hown.row ⟨b, 0, none⟩ 1 1 (x.map (Value.int .u8)) (by simp [hx.len]) (news_blk hk) (fun u hu => by
    simp only [List.mem_map] at hu
    obtain ⟨_, _, rfl⟩ := hu
    rfl) (by unfold maxLen; omega) (by omega) hbase
  refine ⟨v', w', h1, ⟨?_, ?_⟩, h3, ?_⟩
  · have : (ds ++ [x]).flatten.map (Value.int .u8) = ds.flatten.map (Value.int .u8) ++ x.map (Value.int .u8) := by simp
    rw [this, List.length_append]
    exact h2
  · intro d hd
    rcases List.mem_append.1 hd with h | h
    · exact hown.each d h
    · simp only [List.mem_singleton] at h
      rw [h]; exact hx
  · exact hbel h3
theorem wpList_append_dig {ops : Array Oper} {rest : List Oper} {o : Oper} {A : Act} {Q : Exit → Act → World → Prop} (hgd : o.guard = none) (s x : Operand) (ho : o.op = .call { callee := .builtin .append, args := #[s, x], argTypes := #[t, t] })
    (ht : P.underlying t = some (.slice e)) (hi : P.info? e = some i) (hz : i.zero = some z) (hzs : z.cells.size = 32) (hsize : i.size = 32) (hby : i.bytes = 32) (hs : A.eval s = v) (hown : OwnD w base e v ds)
    {b : Nat} {y : List Int} {T : TypeId} (hx : A.eval x = .slice (some ⟨b, 0, none⟩) 1 1) (hk : Blk w b (y.map (Value.int .u8)).toArray T) (hy : Dg y) (hb : ds.length ≤ 4000000000000) (hbase : base ≤ w.heap.size)
    (h : ∀ v' w', OwnD w' base e v' (ds ++ [y]) → w.grownBy w' v.ownBlock → Below base w w' → wpList P ops Q rest (A.put o.dst v') w') : wpList P ops Q (o :: rest) A w :=
  wpList_plain hgd fun K hK => by
    obtain ⟨v', w', hr, h2, h3, h4⟩ := run_append_dig o.type ht hi hz hzs hsize hby hown hk hy hb hbase
    unfold Oper.wp execOp
    simp only [ho, resolve, invoke, builtin, Sem.run_bind, Sem.run_pure, Result.andThen_ok, List.map_toArray, List.map_cons, List.map_nil, hs, hx, hr, Oper.upon_value]
    exact hK _ _ (h v' w' h2 h3 h4)
end
section
variable {P : Program} {ops : Array Oper} {rest : List Oper} {op : Oper} {a : Act} {w : World} {Q : Exit → Act → World → Prop} {t e : TypeId}
/-- An element's address. -/
theorem run_indexAt_digs (ht : P.underlying t = some (.slice e)) (hs : (P.info? e).map (·.size) = some 32) (b o len cap : Nat) (k : IntKind) (i : Int) (j : Nat) (hi : i = j) (hj : j < len) (w : World) :
    (Instr.indexAt t (.slice (some ⟨b, o, none⟩) len cap) (.int k i)).run P w = .ok (.pointer (some ⟨b, o + j * 32, none⟩)) w := by
  subst hi
  obtain ⟨i0, hi0, h32⟩ := Option.map_eq_some_iff.1 hs
  have hlt : (0 : Int) ≤ j ∧ (j : Int) < len := by omega
  unfold Instr.indexAt
  simp [asIntOf, Sem.run_bind, run_underlying ht, hlt, sizeOf, typeInfo, hi0, h32, hj, Addr.add_mid]
theorem wpList_index_digs (hgd : op.guard = none) (ty : TypeId) (x ix : Operand) (ho : op.op = .indexAddr ty x ix) (ht : P.underlying ty = some (.slice e)) (hs : (P.info? e).map (·.size) = some 32) (b o len cap : Nat) (hx : a.eval x = .slice (some ⟨b, o, none⟩) len cap)
    (k : IntKind) (i : Int) (hix : a.eval ix = .int k i) (j : Nat) (hi : i = j) (hj : j < len) (h : wpList P ops Q rest (a.put op.dst (.pointer (some ⟨b, o + j * 32, none⟩))) w) : wpList P ops Q (op :: rest) a w :=
  wpList_plain hgd fun K hK => by
    unfold Oper.wp execOp
    simp only [ho, hx, hix, Sem.run_bind, Sem.run_pure, Result.andThen_ok, run_indexAt_digs ht hs b o len cap k i j hi hj, Oper.upon_value]
    exact hK _ _ h
theorem quiet_index_digs {C : World → Prop} {K : Act → Prop} (ty : TypeId) (x ix : Operand) (ho : op.op = .indexAddr ty x ix) (ht : P.underlying ty = some (.slice e)) (hs : (P.info? e).map (·.size) = some 32) (b o len cap : Nat) (hx : a.eval x = .slice (some ⟨b, o, none⟩) len cap)
    (k : IntKind) (i : Int) (hix : a.eval ix = .int k i) (j : Nat) (hi : i = j) (hj : j < len) (h : K (a.put op.dst (.pointer (some ⟨b, o + j * 32, none⟩)))) : op.quiet P a C K :=
  ⟨.pointer (some ⟨b, o + j * 32, none⟩), fun w' hw' => by
    unfold Oper.quietAt execOp
    simp only [ho, hx, hix, Sem.run_bind, Sem.run_pure, Result.andThen_ok, run_indexAt_digs ht hs b o len cap k i j hi hj]
    simp [Oper.quietUpon], h⟩
theorem quiet_load_mid {C : World → Prop} {K : Act → Prop} (ty : TypeId) (x : Operand) (ho : op.op = .load ty x) (b o : Nat) (hx : a.eval x = .pointer (some ⟨b, o, none⟩)) (cs : List Value)
    (hk : ∀ w', C w' → w'.rangeAt b o cs) (d : TypeDesc) (hu : P.underlying ty = some d) (hd : d.isRow = true) (hi : (P.info? ty).map (·.size) = some cs.length)
    (h : K (a.put op.dst (.agg cs.toArray))) : op.quiet P a C K :=
  ⟨.agg cs.toArray, fun w' hw' => by
    unfold Oper.quietAt execOp
    simp only [ho, hx, Instr.loadAt, Instr.sureAddr, Sem.run_bind, Sem.run_pure, Result.andThen_ok, run_loadVar_mid w' b o ty cs d (hk w' hw') hu hd hi]
    simp [Oper.quietUpon], h⟩
end
end Go.Proofs.YtkakoiaahgchmaaDoor
namespace Go.Proofs.YtkakoiaahgchmaaDoor
set_option maxRecDepth 100000
open Go.ChangeShapes Go.WideShapes Go.ChangeAt Go.RowKit
/-- a text that a function hands back -/
def TextV (t : List Int) (v : Value) (w : World) : Prop := ∃ a n c, v = .slice a n c ∧ TextAt w a n c t
theorem TextV.below {t : List Int} {v : Value} {w w' : World} (h : TextV t v w) (hb : Below w.heap.size w w') : TextV t v w' := by
  obtain ⟨a, n, c, h1, h2⟩ := h
  exact ⟨a, n, c, h1, h2.below hb⟩
theorem TextV.of_own {w : World} {base : Nat} {e : TypeId} {v : Value} {bs : List Int} (h : OwnB w base e v bs) : TextV bs v w := by
  obtain ⟨a, c, h1, h2, _⟩ := h.text
  exact ⟨a, _, c, h1, h2⟩
namespace FlowB
theorem store_skips {P : Program} {o : Oper} {A : Act} {w : World} (ty : TypeId) (x y : Operand) (ho : o.op = .store ty x y) (b : Nat) (cells : Array Value) (hx : A.eval x = .pointer (some ⟨b, 0, none⟩)) (hy : A.eval y = .agg cells)
    (cs : Array Value) (T : TypeId) (hk : Blk w b cs T) (n : Nat) (hi : (P.info? ty).map (·.size) = some n) (hs : cs.size = n) (hn : cells.size = n) (h1 : cells.all (·.oneCell') = true) {S : List Nat} {G : World → Prop} (hb : b ∈ S) (hG : ∀ w2, But b w w2 → Blk w2 b cells T → G w2) :
    ∃ w2, (execOp A.eval o).run P w = .ok .skip w2 ∧ ButIn S w w2 ∧ G w2 := by
  obtain ⟨w2, q1, q2, q3⟩ := exec_store_blk ty x y ho b cells hx hy cs T hk n hi hs hn h1
  exact ⟨w2, q1, ButIn.of_but q2 hb, hG w2 q2 q3⟩
end FlowB
end Go.Proofs.YtkakoiaahgchmaaDoor
namespace Go.Proofs.YtkakoiaahgchmaaDoor
set_option maxRecDepth 100000
open Go.ChangeShapes Go.WideShapes Go.ChangeAt Go.RowKit
/-- where a part of a row of digests begins -/
def cutD (a : Option Addr) (l cap : Nat) : Option Addr := if cap = l then a else a.map (·.add (l * 32))
theorem cutD_zero (a : Option Addr) (cap : Nat) : cutD a 0 cap = a := by
  unfold cutD
  split
  · rfl
  · cases a with
    | none => rfl
    | some a => obtain ⟨x, o, s⟩ := a; cases s <;> simp [Addr.add]
theorem DigsAt.cut {w : World} {a : Option Addr} {len cap : Nat} {ds : List (List Int)} (h : DigsAt w a len cap ds) (l hi : Nat) (hl : l ≤ hi) (hh : hi ≤ len) : DigsAt w (cutD a l cap) (hi - l) (cap - l) ((ds.drop l).take (hi - l)) := by
  obtain ⟨h1, h2, h3, h4, h5⟩ := h
  refine ⟨by simp; omega, by omega, by omega, fun x hx => h4 x (List.mem_of_mem_drop (List.mem_of_mem_take hx)), ?_⟩
  unfold cutD
  rcases h5 with ⟨rfl, rfl, rfl⟩ | ⟨x, o, s, rfl, hc⟩
  · left
    refine ⟨by split <;> rfl, by omega, by omega⟩
  · right
    split
    · exact ⟨x, o, s, rfl, fun j hj => by omega⟩
    · rcases Nat.eq_or_lt_of_le hl with rfl | hlt
      · rcases s with _ | s
        · exact ⟨x, o + l * 32, none, by rw [Option.map_some, Addr.add_mid], fun j hj => by omega⟩
        · cases ha : (⟨x, o, some s⟩ : Addr).add (l * 32) with
          | mk x' o' s' => exact ⟨x', o', s', by simp [ha], fun j hj => by omega⟩
      · obtain ⟨rfl, hx, _⟩ := hc l (by omega)
        refine ⟨x, o + l * 32, none, by rw [Option.map_some, Addr.add_mid], fun j hj => ⟨rfl, hx, ?_⟩⟩
        rw [show o + l * 32 + j * 32 = o + (l + j) * 32 by omega]
        have := (hc (l + j) (by omega)).2.2
        rw [show ((ds.drop l).take (hi - l)).getD j [] = ds.getD (l + j) [] by simp [List.getD_eq_getElem?_getD, show j < hi - l by omega]]
        exact this
theorem DigsAt.head {w : World} {a : Option Addr} {len cap : Nat} {ds : List (List Int)} (h : DigsAt w a len cap ds) (hi : Nat) (hh : hi ≤ len) : DigsAt w a hi cap (ds.take hi) := by
  have := h.cut 0 hi (Nat.zero_le _) hh
  simpa [cutD_zero] using this
section
variable {P : Program} {t e : TypeId}
theorem run_cutd_h (ht : P.underlying t = some (.slice e)) (hs : (P.info? e).map (·.size) = some 32) (a : Option Addr) (len cap : Nat) (hi : Int) (w : World) (h0 : 0 ≤ hi) (h2 : hi ≤ cap) :
    (Instr.slice t (.slice a len cap) none (some (.int .i64 hi)) none).run P w = .ok (.slice a hi.toNat cap) w := by
  have he : P.elem t = e := by simp [Program.elem, ht]
  rw [run_slice_h (w := w) t a len cap (by rw [he]; exact ht) _ hi h0 h2]
  obtain ⟨i, hi1, hi2⟩ := Option.map_eq_some_iff.1 hs
  have := cutD_zero a cap
  unfold cutD at this
  simp only [Nat.zero_mul] at this
  simp [sizeOf, typeInfo, he, hi1, hi2, sliced, this]
theorem run_cutd_l (ht : P.underlying t = some (.slice e)) (hs : (P.info? e).map (·.size) = some 32) (a : Option Addr) (len cap : Nat) (l : Int) (w : World) (h0 : 0 ≤ l) (h1 : l ≤ len) :
    (Instr.slice t (.slice a len cap) (some (.int .i64 l)) none none).run P w = .ok (.slice (cutD a l.toNat cap) (len - l.toNat) (cap - l.toNat)) w := by
  have he : P.elem t = e := by simp [Program.elem, ht]
  rw [run_slice_l (w := w) t a len cap (by rw [he]; exact ht) _ l h0 h1]
  obtain ⟨i, hi1, hi2⟩ := Option.map_eq_some_iff.1 hs
  simp [sizeOf, typeInfo, he, hi1, hi2, sliced, cutD]
end
theorem info_dig : (Tryd.prog.info? 23).map (fun i => (i.zero, i.size, i.bytes)) = some (some (.agg (zD.map (Value.int .u8)).toArray), 32, 32) := by kernel_rfl
theorem zD_rows (n : Nat) : madeCells (Value.agg (zD.map (Value.int .u8)).toArray).cells (n * 32) = (dcs (List.replicate n zD)) := by
  unfold dcs
  apply Array.ext'
  have hz : (List.replicate n zD).flatten = List.replicate (n * 32) 0 := by
    unfold zD
    rw [List.flatten_replicate_replicate]
  rw [hz]
  apply List.ext_getElem?
  intro j
  simp only [madeCells, Array.toList_map, Array.toList_range, List.map_replicate, List.getElem?_map, List.getElem?_replicate]
  rcases Nat.lt_or_ge j (n * 32) with hj | hj
  · rw [List.getElem?_range hj, if_pos hj]
    have hm : j % 32 < 32 := Nat.mod_lt _ (by omega)
    have hsz : (zD.map (Value.int .u8)).toArray.size = 32 := by rw [List.size_toArray, List.length_map, Dg.zero.len]
    have hc : (zD.map (Value.int .u8)).toArray[j % 32]! = Value.int .u8 0 := by
      rw [getElem!_pos _ _ (by rw [hsz]; exact hm)]
      simp only [zD, List.map_replicate, List.getElem_toArray, List.getElem_replicate]
    show some ((zD.map (Value.int .u8)).toArray[j % (zD.map (Value.int .u8)).toArray.size]!) = _
    rw [hsz, hc]
  · rw [List.getElem?_eq_none (by simpa using hj), if_neg (by omega)]
    rfl
/-- a row of digests is made -/
theorem make_digs (n : Nat) (i : Int) (hi : i = n) (hn : n ≤ 500000) (w0 : World) : (Instr.makeSlice 24 (.int .i64 i) (.int .i64 i)).run Tryd.prog w0 = .ok (.slice (some ⟨w0.heap.size, 0, none⟩) n n) (w0.alloc (.cells (dcs (List.replicate n zD)) 23)) := by
  subst hi
  obtain ⟨i0, hi, hz0, hz1, hz2⟩ := info_parts info_dig
  have hr := run_makeSlice (P := Tryd.prog) w0 24 23 i0 _ Tryd.underlying24 hi hz0 .i64 .i64 n n (by omega) (by omega) (by rw [hz1]; simp; omega) (by rw [hz2]; omega) (by omega)
  rw [hz1, Int.toNat_natCast, zD_rows] at hr
  exact hr
theorem zRow (n : Nat) : ∀ d ∈ List.replicate n zD, Dg d := fun d hd => by
  rw [List.eq_of_mem_replicate hd]; exact Dg.zero
theorem zD_cells32 : (Value.agg (zD.map (Value.int .u8)).toArray).cells.size = 32 := by
  show (zD.map (Value.int .u8)).toArray.size = 32
  rw [List.size_toArray, List.length_map, Dg.zero.len]
end Go.Proofs.YtkakoiaahgchmaaDoor
namespace Go.Proofs.YtkakoiaahgchmaaDoor
set_option maxRecDepth 100000
open Go.ChangeShapes Go.WideShapes Go.ChangeAt Go.RowKit
@[irreducible] def joinZ (a b pub ad : List Int) : List Int :=
  hZ (atZ pub (setAd ad (ad.getD 5 0) (ad.getD 6 0) 0)) (xorD a (atZ pub (setAd ad (ad.getD 5 0) (ad.getD 6 0) 1))) (xorD b (atZ pub (setAd ad (ad.getD 5 0) (ad.getD 6 0) 2)))
end Go.Proofs.YtkakoiaahgchmaaDoor
namespace Go.Proofs.YtkakoiaahgchmaaDoor
set_option maxRecDepth 100000
open Go.ChangeShapes Go.WideShapes Go.ChangeAt Go.RowKit
/-- a digest is stored to a row -/
theorem wpList_store_dig {P : Program} {ops : Array Oper} {rest : List Oper} {op : Oper} {a : Act} {w : World} {Q : Exit → Act → World → Prop} (hgd : op.guard = none) (ty : TypeId) (x y : Operand) (ho : op.op = .store ty x y) (b j : Nat) (d : List Int) (hx : a.eval x = .pointer (some ⟨b, 0 + j * 32, none⟩)) (hy : a.eval y = .agg (d.map (Value.int .u8)).toArray)
    (ds : List (List Int)) (T : TypeId) (hk : Blk w b (dcs ds) T) (hds : ∀ d ∈ ds, Dg d) (hd : Dg d) (hj : j < ds.length) (hi : (P.info? ty).map (·.size) = some 32)
    (h : ∀ w', But b w w' → Blk w' b (dcs (ds.set j d)) T → wpList P ops Q rest (a.put op.dst undef) w') : wpList P ops Q (op :: rest) a w := by
  refine wpList_store_mid hgd ty x y ho b (0 + j * 32) (d.map (Value.int .u8)).toArray hx hy (fun k hk' => ⟨?_, hk.free _⟩) (by rw [hi, hd.size]) (ints_one _ _) ?_
  · rw [hd.size] at hk'
    rw [hk.cell, Array.getElem?_eq_getElem (by rw [dcs_size (Dg.lens hds)]; omega)]; rfl
  · rw [Nat.zero_add]
    exact h _ (But.setCells _ _ _ (But.of (Below.refl _ _))) (hk.set_dig hds hd hj)
def aboveZ (pub ad : List Int) (lev : Int) (ds : List (List Int)) : List (List Int) :=
  ((List.range (ds.length / 2)).map fun (i : Nat) => joinZ (ds.getD (2 * i) []) (ds.getD (2 * i + 1) []) pub (setAd ad lev i 0)) ++ ds.drop (ds.length - ds.length % 2)
/-- the row, while it is filled -/
def fillZ (pub ad : List Int) (lev : Int) (ds : List (List Int)) (k : Nat) : List (List Int) :=
  ((List.range k).map fun (i : Nat) => joinZ (ds.getD (2 * i) []) (ds.getD (2 * i + 1) []) pub (setAd ad lev i 0)) ++ (List.replicate (ds.length / 2 - k) zD ++ ds.drop (ds.length - ds.length % 2))
end Go.Proofs.YtkakoiaahgchmaaDoor
namespace Go.Proofs.YtkakoiaahgchmaaDoor
set_option maxRecDepth 100000
open Go.ChangeShapes Go.WideShapes Go.ChangeAt Go.RowKit
def compZ (pub ad : List Int) : Nat → Nat → List (List Int) → List Int
  | 0, _, ds => ds.getD 0 []
  | f + 1, lev, ds => if ds.length ≤ 1 then ds.getD 0 [] else compZ pub ad f (lev + 1) (aboveZ pub ad lev ds)
end Go.Proofs.YtkakoiaahgchmaaDoor
namespace Go.Proofs.YtkakoiaahgchmaaDoor
set_option maxRecDepth 100000
open Go.ChangeShapes Go.WideShapes Go.ChangeAt Go.RowKit
theorem fold_set : ∀ (vs : List Value) (k off : Nat) (acc : Array Value), off + k + vs.length ≤ acc.size → ((vs.zipIdx k).foldl (fun cs (x : Value × Nat) => cs.setIfInBounds (off + x.2) x.1) acc).toList = splice acc.toList (off + k) vs
  | [], k, off, acc, h => by simp [splice]
  | v :: vs, k, off, acc, h => by
    simp only [List.length_cons] at h
    rw [List.zipIdx_cons, List.foldl_cons, fold_set vs (k + 1) off _ (by rw [Array.size_setIfInBounds]; omega)]
    unfold splice
    rw [Array.toList_setIfInBounds, show off + (k + 1) = (off + k) + 1 by omega, List.drop_set_of_lt (by omega), List.length_cons, show off + k + 1 + vs.length = off + k + (vs.length + 1) by omega]
    rw [List.take_succ_eq_append_getElem (by rw [List.length_set, Array.length_toList]; omega), List.take_set_of_le (Nat.le_refl _), List.getElem_set_self]
    simp
theorem fill_dig (cells : Array Value) (ds : List (List Int)) (hc : cells = dcs ds) (hds : ∀ d ∈ ds, Dg d) (x : List Int) (hx : Dg x) (j : Nat) (hj : j < ds.length) (rest : List (Nat × Value)) :
    Instr.fill (fun i => some (i * 32, 32)) cells ((j, .agg (x.map (Value.int .u8)).toArray) :: rest) = Instr.fill (fun i => some (i * 32, 32)) (dcs (ds.set j x)) rest := by
  subst hc
  have hs := dcs_size (Dg.lens hds)
  have hv : (Value.agg (x.map (Value.int .u8)).toArray).cells = (x.map (Value.int .u8)).toArray := rfl
  have hf := fold_set (x.map (Value.int .u8)) 0 (j * 32) (dcs ds) (by rw [List.length_map, hx.len, hs]; omega)
  have he : (((x.map (Value.int .u8)).zipIdx 0).foldl (fun cs (y : Value × Nat) => cs.setIfInBounds (j * 32 + y.2) y.1) (dcs ds)) = dcs (ds.set j x) := by
    apply Array.ext'
    rw [hf, Nat.add_zero]
    unfold dcs
    rw [← flat_set (Dg.lens hds) x hx.len j hj]
    unfold splice
    simp only [List.length_map, List.map_append, List.map_take, List.map_drop]
  rw [Instr.fill]
  simp only [hv, hx.size]
  rw [if_neg (by simp only [ne_eq, not_true_eq_false, decide_false, Bool.false_or, decide_eq_true_eq, hs]; omega)]
  congr 1
  have : ((x.map (Value.int .u8)).toArray).zipIdx = (((x.map (Value.int .u8)).zipIdx 0)).toArray := by simp
  rw [this, List.foldl_toArray']
  · exact he
  · simp
section
variable {P : Program}
/-- parts put in their places, one behind the other -/
theorem run_build_digs (n : Nat) (parts : List (Nat × Value)) (ds : List (List Int)) (hn : n ≤ 1000) (h0 : 0 < n) (h : Instr.fill (fun i => some (i * 32, 32)) (dcs (List.replicate n zD)) parts = some (dcs ds)) (w : World) :
    (Instr.buildSlice 24 n parts.toArray).run Tryd.prog w = .ok (.slice (some ⟨w.heap.size, 0, none⟩) n n) (w.alloc (.cells (dcs ds) 23 (0, 0))) := by
  obtain ⟨i, hi, _, hz1, _⟩ := info_parts info_dig
  have hm := zD_rows n
  unfold madeCells at hm
  unfold Instr.buildSlice
  have hne : ¬ (n * 32 = 0) := by omega
  have hle : ¬ (16777216 < n * 32) := by omega
  have hl : (zD.map (Value.int .u8)).toArray = #[Value.int .u8 0, Value.int .u8 0, Value.int .u8 0, Value.int .u8 0, Value.int .u8 0, Value.int .u8 0, Value.int .u8 0, Value.int .u8 0, Value.int .u8 0, Value.int .u8 0, Value.int .u8 0, Value.int .u8 0, Value.int .u8 0, Value.int .u8 0, Value.int .u8 0, Value.int .u8 0, Value.int .u8 0, Value.int .u8 0, Value.int .u8 0, Value.int .u8 0, Value.int .u8 0, Value.int .u8 0, Value.int .u8 0, Value.int .u8 0, Value.int .u8 0, Value.int .u8 0, Value.int .u8 0, Value.int .u8 0, Value.int .u8 0, Value.int .u8 0, Value.int .u8 0, Value.int .u8 0] := by kernel_rfl
  rw [hl] at hm
  simp [run_underlying Tryd.underlying24, sizeOf, typeInfo, hi, hz1, hne]
  rw [if_neg hle, hm, h]
  simp [newRow]
theorem dcs_one (x : List Int) : dcs [x] = (x.map (Value.int .u8)).toArray := by simp [dcs]
theorem run_build_one {x : List Int} (hx : Dg x) (w : World) : (Instr.buildSlice 24 1 #[(0, .agg (x.map (Value.int .u8)).toArray)]).run Tryd.prog w = .ok (.slice (some ⟨w.heap.size, 0, none⟩) 1 1) (w.alloc (.cells (x.map (Value.int .u8)).toArray 23 (0, 0))) := by
  have h := run_build_digs 1 [(0, .agg (x.map (Value.int .u8)).toArray)] [x] (by omega) (by omega) (by
    rw [fill_dig _ (List.replicate 1 zD) rfl (zRow 1) x hx 0 (by simp), show (List.replicate 1 zD).set 0 x = [x] from rfl, Instr.fill]) w
  rw [dcs_one] at h
  exact h
theorem exec_build_one {o : Oper} {A : Act} {w : World} {e : Operand} (ho : o.op = .buildSlice 24 1 #[(0, e)]) {x : List Int} (he : A.eval e = .agg (x.map (Value.int .u8)).toArray) (hx : Dg x) :
    (execOp A.eval o).run Tryd.prog w = .ok (.value (.slice (some ⟨w.heap.size, 0, none⟩) 1 1)) (w.alloc (.cells (x.map (Value.int .u8)).toArray 23 (0, 0))) := by
  unfold execOp
  simp only [ho, List.map_toArray, List.map_cons, List.map_nil, he, Sem.run_bind, run_build_one hx, Result.andThen_ok, Sem.run_pure]
theorem wpList_build_one {ops : Array Oper} {rest : List Oper} {o : Oper} {A : Act} {w : World} {Q : Exit → Act → World → Prop} (hgd : o.guard = none) (e : Operand) (ho : o.op = .buildSlice 24 1 #[(0, e)]) {x : List Int} (he : A.eval e = .agg (x.map (Value.int .u8)).toArray) (hx : Dg x)
    (h : wpList Tryd.prog ops Q rest (A.put o.dst (.slice (some ⟨w.heap.size, 0, none⟩) 1 1)) (w.alloc (.cells (x.map (Value.int .u8)).toArray 23 (0, 0)))) : wpList Tryd.prog ops Q (o :: rest) A w :=
  wpList_plain hgd fun K hK => by
    unfold Oper.wp
    rw [exec_build_one ho he hx, Oper.upon_value]
    exact hK _ _ h
end
end Go.Proofs.YtkakoiaahgchmaaDoor
namespace Go.Proofs.YtkakoiaahgchmaaDoor
set_option maxRecDepth 100000
open Go.ChangeShapes Go.WideShapes Go.ChangeAt Go.RowKit
namespace FlowB
theorem ButIn.of_grown {w w' : World} {v : Value} (h : w.grownBy w' v.ownBlock) : ButIn v.ownBlock.toList w w' :=
  ⟨h.os, h.tape, h.output, h.size, fun k hk hc => h.block k hk (fun e => hc (by rw [← e]; simp))⟩
theorem st_butIn {S : List Nat} {w : World} (obj : Obj) (hS : ∀ g ∈ S, g < w.heap.size) : St (ButIn S) w obj := fun w1 w2 b _ h2 hb h => by
  rw [h2.block b (Array.getElem?_eq_some_iff.1 h).1 (fun e => by have := hS b e; omega)]
  exact h
end FlowB
end Go.Proofs.YtkakoiaahgchmaaDoor
namespace Go.Proofs.YtkakoiaahgchmaaDoor
set_option maxRecDepth 100000
open Go.ChangeShapes Go.WideShapes Go.ChangeAt Go.RowKit
def sD : List Int := 7 :: List.replicate 31 0
def zA : List Int := List.replicate 8 0
end Go.Proofs.YtkakoiaahgchmaaDoor
namespace Go.Proofs.YtkakoiaahgchmaaDoor
set_option maxRecDepth 100000
open Go.ChangeShapes Go.WideShapes Go.ChangeAt Go.RowKit
def rowW (P : Nat → List Int) : List (List Int) := (List.range 67).map P
def fillW (P : Nat → List Int) (k : Nat) : List (List Int) := (List.range k).map P ++ List.replicate (67 - k) zD
end Go.Proofs.YtkakoiaahgchmaaDoor
namespace Go.Proofs.YtkakoiaahgchmaaDoor
set_option maxRecDepth 100000
open Go.ChangeShapes Go.WideShapes Go.ChangeAt Go.RowKit
section
variable {P : Program} {ops : Array Oper} {rest : List Oper} {op : Oper} {a : Act} {w : World} {Q : Exit → Act → World → Prop}
theorem run_load_one {ty : TypeId} {ad : Addr} {v : Value} (w' : World) (hk : w'.cell? ad = some v) (d : TypeDesc) (hu : P.underlying ty = some d) (hd : d.isRow = false) : (loadVar ty ad).run P w' = .ok v w' := by
  have hagg : (isAgg ty).run P w' = .ok false w' := by
    unfold isAgg
    rw [Sem.run_bind, run_underlying hu w']
    cases d <;> simp_all
  simp [loadVar, Sem.run_bind, hagg, hk]
theorem quiet_load_one {C : World → Prop} {K : Act → Prop} (ty : TypeId) (x : Operand) (ho : op.op = .load ty x) (ad : Addr) (hx : a.eval x = .pointer (some ad)) (v : Value)
    (hk : ∀ w', C w' → w'.cell? ad = some v) (d : TypeDesc) (hu : P.underlying ty = some d) (hd : d.isRow = false)
    (h : K (a.put op.dst v)) : op.quiet P a C K :=
  ⟨v, fun w' hw' => by
    unfold Oper.quietAt execOp
    simp only [ho, hx, Instr.loadAt, Instr.sureAddr, Sem.run_bind, Sem.run_pure, Result.andThen_ok, run_load_one w' (hk w' hw') d hu hd]
    simp [Oper.quietUpon], h⟩
end
/-- The digit at a place. -/
def dgN (m : List Int) (i : Nat) : Nat := ((digits m).getD i 0).toNat
def partZ (seed ad : List Int) (i : Nat) : List Int := atZ seed (setAd ad i 0 0)
def pubP (seed pub ad : List Int) (i : Nat) : List Int := runZ pub (setAd ad i 0 0) (partZ seed ad i) 0 15
def sigP (m seed pub ad : List Int) (i : Nat) : List Int := runZ pub (setAd ad i 0 0) (partZ seed ad i) 0 (dgN m i)
def fromP (l : List (List Int)) (m pub ad : List Int) (i : Nat) : List Int := runZ pub (setAd ad i 0 0) (l.getD i zD) (dgN m i) (15 - dgN m i)
end Go.Proofs.YtkakoiaahgchmaaDoor
namespace Go.Proofs.YtkakoiaahgchmaaDoor
set_option maxRecDepth 100000
open Go.ChangeShapes Go.WideShapes Go.ChangeAt Go.RowKit
section
variable {P : Program} {ops : Array Oper} {rest : List Oper} {op : Oper} {a : Act} {w : World} {Q : Exit → Act → World → Prop}
end
end Go.Proofs.YtkakoiaahgchmaaDoor
namespace Go.Proofs.YtkakoiaahgchmaaDoor
set_option maxRecDepth 100000
open Go.ChangeShapes Go.WideShapes Go.ChangeAt Go.RowKit
def preW (P : Nat → List Int) (k : Nat) : List (List Int) := (List.range k).map P
/-- A row of digests, wherever it lies. -/
def RowV (n : Nat) (ds : List (List Int)) (v : Value) (w : World) : Prop := ∃ a cap, v = .slice a n cap ∧ DigsAt w a n cap ds
/-- 67 numbers, wherever they lie. -/
def IntV (F : Nat → Nat) (v : Value) (w : World) : Prop := ∃ g cap, v = .slice (some ⟨g, 0, none⟩) 67 cap ∧ g < w.heap.size ∧ ∀ i, i < 67 → w.cell? ⟨g, i, none⟩ = some (.int .i64 (F i : Int))
end Go.Proofs.YtkakoiaahgchmaaDoor
namespace Go.Proofs.YtkakoiaahgchmaaDoor
set_option maxRecDepth 100000
open Go.ChangeShapes Go.WideShapes Go.ChangeAt Go.RowKit
end Go.Proofs.YtkakoiaahgchmaaDoor
