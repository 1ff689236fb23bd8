/-
  Contracts of sha.New, (*sha.Hash).Write, (*sha.Hash).Sum.
-/
import Derived.Test.YtkiaeepdpmcafaaDoorShaSum
namespace Go.Proofs.YtkiaeepdpmcafaaDoor
open Go.ChangeShapes Go.WideShapes Go.ChangeAt Go.RowKit

set_option maxHeartbeats 4000000 in
set_option maxRecDepth 100000 in
theorem new_any (w : World) (tab : ShaTab w) :
    Calls Tryd.prog 17 #[] w fun e w' => ∃ ph, e = .returned (.pointer (some ⟨ph, 0, none⟩)) ∧ w.heap.size ≤ ph ∧ HashAt w' ph 63 [] ∧ Below w.heap.size w w' := by
  have HN : Hid (newHash.size = 73) := hid (hashCells_size _ _ _ (by simp))
  have HZ : Hid (Tryd.zeroCells63.size = 73) := hid (by kernel_rfl)
  have H1 : Hid (newHash.all (·.oneCell') = true) := hid (by kernel_rfl)
  have Htab := hid tab
  clear tab
  go_enter Tryd.func17, Tryd.ntmps17
  go_wp2_with fail
  refine (begin_any _ Htab.out).mono ?_
  rintro e w1 ⟨rfl, b1⟩
  have hs1 := b1.size
  have Hb1 := hid b1
  clear b1
  go_wp2_with (refine wpList_store_blk rfl 63 _ _ rfl w1.heap.size newHash rfl rfl Tryd.zeroCells63 63 (Blk.new rfl _ _) 73 size_hash HZ.out HN.out H1.out ?_; intro w2 hb2 hk2)
  go_ret
  exact ⟨w1.heap.size, rfl, hs1, hash_new hk2, hb2.below (Hb1.out.alloc hs1 _) (by rw [World.size_alloc]; omega) hs1⟩

theorem write_none (v : Value) (w : World) : Calls Tryd.prog 18 #[.pointer none, v] w fun e w' => e = .returned (.tuple #[]) ∧ w = w' := by
  go_enter Tryd.func18, Tryd.ntmps18
  go_wp2_with fail
  go_returns
  exact ⟨rfl, rfl⟩

set_option maxHeartbeats 1000000 in
theorem write_any (ph : Nat) (T : TypeId) (bs : List Int) (a : Option Addr) (len cap : Nat) (t : List Int) (w : World) (hH : HashAt w ph T bs) (hT : TextAt w a len cap t) (hbnd : bs.length + len < 1152921504606846976) (hne : 0 < len → ∀ p : Addr, a = some p → p.block ≠ ph) (tab : ShaTab w) (hp1 : ph ≠ 1) (hp0 : ph ≠ 0) :
    Calls Tryd.prog 18 #[.pointer (some ⟨ph, 0, none⟩), .slice a len cap] w fun e w' => e = .returned (.tuple #[]) ∧ But ph w w' ∧ HashAt w' ph T (bs ++ t) := by
  have h := add_any ph T bs a len cap t w hH hT hbnd hne tab hp1 hp0
  clear hH hT hne tab
  go_enter Tryd.func18, Tryd.ntmps18
  go_wp2_with fail
  refine h.mono ?_
  rintro e w4 ⟨rfl, b4, h4⟩
  have H4 := hid (And.intro b4 h4)
  clear b4 h4
  go_wp2_with fail
  go_returns
  exact ⟨rfl, H4.out⟩

set_option maxHeartbeats 4000000 in
set_option maxRecDepth 100000 in
theorem hashSum_any (ph : Nat) (bs : List Int) (w : World) (hH : HashAt w ph 63 bs) (hbnd : bs.length < 1152921504606846976) (tab : ShaTab w) :
    Calls Tryd.prog 19 #[.pointer (some ⟨ph, 0, none⟩)] w fun e w' => e = .returned (.agg ((sumZ bs).map (Value.int .u8)).toArray) ∧ Below w.heap.size w w' := by
  obtain ⟨hbs, R, hR, hRs, hRt, hk⟩ := hH
  have hlt := hk.lt
  have HC : Hid ((hashCells (Sha.run Sha.start (natB bs) (bs.length / 64)) R bs.length).toArray.size = 73) := hid (hashCells_size _ _ _ hR)
  have H1 : Hid ((hashCells (Sha.run Sha.start (natB bs) (bs.length / 64)) R bs.length).toArray.all (·.oneCell') = true) := hid (by
    refine all_oneCell_toArray fun v hv => ?_
    simp only [hashCells, stCells, List.mem_append, List.mem_cons, List.mem_map] at hv
    rcases hv with h | h | h
    · rcases h with h | h | h | h | h | h | h | h | h <;> first | (subst h; rfl) | (simp at h)
    · obtain ⟨x, _, rfl⟩ := h; rfl
    · rcases h with h | h
      · subst h; rfl
      · simp at h)
  have HH : ∀ (w' : World) (b : Nat), Blk w' b (hashCells (Sha.run Sha.start (natB bs) (bs.length / 64)) R bs.length).toArray 63 → HashAt w' b 63 bs := fun w' b h => ⟨hbs, R, hR, hRs, hRt, h⟩
  have HH' := hid HH
  have HZ : Hid (Tryd.zeroCells63.size = 73) := hid (by kernel_rfl)
  have Htab := hid tab
  have hlt1 := tab.lt
  have hlt0 := tab.lt0
  generalize (hashCells (Sha.run Sha.start (natB bs) (bs.length / 64)) R bs.length).toArray = C at *
  have kA := hk.old (.cells (byteCells 32 []) 26 (0, 0))
  have HkA := hid kA
  have Hkr := hid (Blk.new (w := w) rfl (byteCells 32 []) 26)
  have HbA := hid ((Below.refl w.heap.size w).alloc (Nat.le_refl _) (.cells (byteCells 32 []) 26 (0, 0)))
  clear hk HH tab hRs hRt hbs kA
  go_enter Tryd.func19, Tryd.ntmps19
  go_wp2_with (first | (refine wpList_load_blk rfl 63 _ rfl ph rfl C 63 HkA.out _ Tryd.underlying63 rfl 73 size_hash HC.out ?_) | (refine wpList_store_blk rfl 63 _ _ rfl (w.heap.size + 1) C rfl rfl Tryd.zeroCells63 63 (Blk.new (by rw [World.size_alloc]) _ _) 73 size_hash HZ.out HC.out H1.out ?_; intro w2 hb2 hk2))
  have hB : Below w.heap.size w w2 := hb2.below (HbA.out.alloc (by rw [World.size_alloc]; omega) _) (by rw [World.size_alloc, World.size_alloc]; omega) (by omega)
  have kr2 := hb2.blk (Hkr.out.old _) (show w.heap.size ≠ w.heap.size + 1 by omega)
  have hH2 := HH'.out w2 _ hk2
  have tab2 := Htab.out.below hB
  have hsz2 := hB.size
  refine (finish_any (w.heap.size + 1) 63 bs w2 hH2 hbnd tab2 (by omega) (by omega)).mono ?_
  rintro e w4 ⟨rfl, b4⟩
  have Hbel4 := hid (b4.below hB hsz2 (by omega))
  have Hkr4 := hid (b4.blk kr2 (show w.heap.size ≠ w.heap.size + 1 by omega))
  have Hsz : Hid (((sumZ bs).map (Value.int .u8)).toArray.size = 32) := hid (by simp [sumZ_length])
  have Hzb : Hid ((byteCells 32 []).size = 32) := hid (byteCells_size 32 [] (by simp))
  clear b4 hB kr2 hH2 tab2 hb2 hk2 HkA Hkr HbA
  go_wp2_with (refine wpList_store_blk rfl 26 _ _ rfl w.heap.size _ rfl rfl _ 26 Hkr4.out 32 size_digest Hzb.out Hsz.out (ints_one _ _) ?_; intro w6 hbut6 hk6)
  exact bodyPost_ret (v := .agg ((sumZ bs).map (Value.int .u8)).toArray) (results_blk Tryd.results19 _ w.heap.size rfl _ 26 hk6 _ Tryd.underlying26 rfl 32 size_digest Hsz.out) rfl ⟨rfl, hbut6.below Hbel4.out Hbel4.out.size (Nat.le_refl _)⟩
set_option maxHeartbeats 4000000 in
theorem hashSum_none (w : World) (tab : ShaTab w) : Calls Tryd.prog 19 #[.pointer none] w fun e w' => e = .returned (.agg ((sumZ []).map (Value.int .u8)).toArray) ∧ Below w.heap.size w w' := by
  have HA := hid ((Below.refl w.heap.size w).alloc (Nat.le_refl _) (.cells (byteCells 32 []) 26 (0, 0)))
  have Hkr := hid (Blk.new (w := w) rfl (byteCells 32 []) 26)
  have Hsum := hid (sum_any none 0 0 [] (w.alloc (.cells (byteCells 32 []) 26 (0, 0))) ⟨rfl, Nat.le_refl _, by omega, .inl rfl⟩ (by simp [sumLen]) (tab.below HA.out))
  clear tab
  go_enter Tryd.func19, Tryd.ntmps19
  go_wp2_with fail
  refine Hsum.out.mono ?_
  rintro e w4 ⟨rfl, b4⟩
  have Hbel4 := hid (Below.on HA.out b4)
  have Hkr4 := hid (Hkr.out.below b4)
  have Hsz : Hid (((sumZ ([] : List (List Int)).flatten).map (Value.int .u8)).toArray.size = 32) := hid (by simp [sumZ_length])
  have Hzb : Hid ((byteCells 32 []).size = 32) := hid (byteCells_size 32 [] (by simp))
  clear b4 HA Hkr Hsum
  go_wp2_with (refine wpList_store_blk rfl 26 _ _ rfl w.heap.size _ rfl rfl _ 26 Hkr4.out 32 size_digest Hzb.out Hsz.out (ints_one _ _) ?_; intro w6 hbut6 hk6)
  exact bodyPost_ret (v := .agg ((sumZ []).map (Value.int .u8)).toArray) (results_blk Tryd.results19 _ w.heap.size rfl _ 26 hk6 _ Tryd.underlying26 rfl 32 size_digest Hsz.out) rfl ⟨rfl, hbut6.below Hbel4.out Hbel4.out.size (Nat.le_refl _)⟩
end Go.Proofs.YtkiaeepdpmcafaaDoor
