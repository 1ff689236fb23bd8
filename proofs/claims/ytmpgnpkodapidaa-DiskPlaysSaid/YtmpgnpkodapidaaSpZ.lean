/-
  Layer 12: the law DiskPlays.
-/
import Derived.Test.YtmpgnpkodapidaaSpJ
import Derived.Lib.ConvBytes
namespace Go.Proofs.Ytmpgnpkodapidaa
open Go.ChangeShapes Go.WideShapes Go.ChangeAt Go.RowKit

/-- The state: on, the sectors, what waits, the failure that is set. -/
structure PS where
  on : Bool
  On : List (List Int)
  ws : List (Nat × List Int)
  fl : Option (Int × List Int)
structure PS.Ok (σ : PS) (n z c : Nat) : Prop where
  len : σ.On.length = n
  sec : ∀ t ∈ σ.On, t.length = z
  wai : ∀ x ∈ σ.ws, x.1 < n ∧ x.2.length = z
  few : σ.ws.length ≤ c
  off : σ.on = false → σ.ws = []
def dkS (p bb : Nat) (dv : Value) : List Nat := p :: bb :: dv.ownBlock.toList
/-- The program's disk in a state; its list lies outside X. -/
structure DkS (w : World) (N p bb z n : Nat) (dv : Value) (σ : PS) (X : List Nat) : Prop where
  ex : ∃ set af kv, DkAt w p bb z n σ.On.flatten dv σ.on set af kv ∧ WaitU w N bb z dv σ.ws ∧ (σ.on = false → dv = .slice none 0 0) ∧ (σ.on = true → σ.fl = none ∧ set = false ∨ ∃ a ks da dc, σ.fl = some (a, ks) ∧ set = true ∧ af = a ∧ 0 ≤ a ∧ a < 9223372036854775808 ∧ kv = .slice da (List.length ks) dc ∧ IntsAt w (dkS p bb dv ++ X) da ks ∧ (∀ k ∈ ks, -9223372036854775808 ≤ k ∧ k ≤ 9223372036854775807))
  lo : N ≤ p ∧ N ≤ bb
/-- The document's disk in a state; its list lies outside Y. -/
structure RfS (w : World) (N r z : Nat) (ov av wv : Value) (σ : PS) (Y : List Nat) : Prop where
  ex : ∃ left rk, RfAt w N r z ov av wv σ.On σ.ws (!σ.on) left rk ∧ (σ.on = true → σ.fl = none ∧ left = -1 ∨ ∃ a ks ka kc, σ.fl = some (a, ks) ∧ left = a ∧ 0 ≤ a ∧ a < 9223372036854775808 ∧ rk = .slice ka (List.length ks) kc ∧ IntsAt w (rfS r ov av wv ++ Y) ka ks)
theorem IntsAt.change {w w' : World} {S S' T : List Nat} {ka : Option Addr} {ks : List Int} (h : IntsAt w S ka ks) (hb : FlowB.ButIn T w w') (hT : ∀ b ∈ T, b ∈ S) (hs : ∀ b ∈ S', b ∈ S ∨ w.heap.size ≤ b) : IntsAt w' S' ka ks :=
  h.grow (ButIn.wide hb hT) hs
/-- the blocks of both sides are unlike -/
theorem apart {w : World} {N r z p bb n : Nat} {ov av wv dv : Value} {On : List (List Int)} {ws ws' : List (Nat × List Int)} {off on set : Bool} {left af : Int} {kv rk : Value} {B : List Int} (hR : RfAt w N r z ov av wv On ws off left rk) (hD : DkAt w p bb z n B dv on set af kv) (hW : WaitU w N bb z dv ws') : ∀ b ∈ rfS r ov av wv, b ∉ dkS p bb dv := by
  obtain ⟨xs, ho, -⟩ := hW.ex
  have key : ∀ b cs T, Blk w b cs T → T ≠ 75 → T ≠ 5 → T ≠ 85 → b ∉ dkS p bb dv := fun b cs T hb h1 h2 h3 hm => by
    simp only [dkS, List.mem_cons, Option.mem_toList] at hm
    rcases hm with h | h | h
    · exact blk_ne hb hD.kp h1 h
    · exact blk_ne hb hD.kb h2 h
    · obtain ⟨ds, hds⟩ := owns_blk ho h
      exact blk_ne hb hds h3 rfl
  intro b hb
  simp only [rfS, List.mem_cons, List.mem_append, Option.mem_toList] at hb
  rcases hb with h | h | h | h
  · rw [h]; exact key _ _ _ hR.kr (by decide) (by decide) (by decide)
  · obtain ⟨cs, hcs⟩ := owns_blk hR.on h
    exact key _ _ _ hcs (by decide) (by decide) (by decide)
  · obtain ⟨cs, hcs⟩ := owns_blk hR.at_ h
    exact key _ _ _ hcs (by decide) (by decide) (by decide)
  · obtain ⟨cs, hcs⟩ := owns_blk hR.wt h
    exact key _ _ _ hcs (by decide) (by decide) (by decide)
theorem rfS_lt {w : World} {N r z : Nat} {ov av wv : Value} {On : List (List Int)} {ws : List (Nat × List Int)} {off : Bool} {left : Int} {rk : Value} (hR : RfAt w N r z ov av wv On ws off left rk) : ∀ b ∈ rfS r ov av wv, N ≤ b ∧ b < w.heap.size := by
  intro b hb
  simp only [rfS, List.mem_cons, List.mem_append, Option.mem_toList] at hb
  rcases hb with h | h | h | h
  · rw [h]; exact ⟨hR.lo, hR.kr.lt⟩
  · exact hR.on.lt b h
  · exact hR.at_.lt b h
  · exact hR.wt.lt b h
/-- the document's disk stays where the program's changes -/
theorem RfS.stay {w w' : World} {N r z p bb n : Nat} {ov av wv dv dv' : Value} {σ τ : PS} {X : List Nat} (h : RfS w N r z ov av wv σ (dkS p bb dv)) (hD : DkS w N p bb z n dv τ X) (hb : FlowB.ButIn (dkS p bb dv) w w') (hs : ∀ b ∈ dkS p bb dv', b ∈ dkS p bb dv ∨ w.heap.size ≤ b) : RfS w' N r z ov av wv σ (dkS p bb dv') := by
  obtain ⟨left, rk, h1, h2⟩ := h.ex
  obtain ⟨set, af, kv, d1, d2, -⟩ := hD.ex
  refine ⟨left, rk, h1.in_ hb (apart h1 d1 d2), fun ho => (h2 ho).imp id ?_⟩
  rintro ⟨a, ks, ka, kc, e1, e2, e3, e4, e5, e6⟩
  exact ⟨a, ks, ka, kc, e1, e2, e3, e4, e5, e6.change hb (fun b hb => List.mem_append_right _ hb) (fun b hb => by
    rcases List.mem_append.1 hb with h | h
    · exact .inl (List.mem_append_left _ h)
    · exact (hs b h).imp (List.mem_append_right _) id)⟩
/-- the program's disk stays where the document's changes -/
theorem DkS.stay {w w' : World} {N r z p bb n : Nat} {ov av wv dv : Value} {σ τ : PS} {X Y : List Nat} (h : DkS w N p bb z n dv σ (rfS r ov av wv)) (hR : RfS w N r z ov av wv τ Y) (hb : FlowB.ButIn (rfS r ov av wv) w w') (hs : ∀ b ∈ X, b ∈ rfS r ov av wv ∨ w.heap.size ≤ b) : DkS w' N p bb z n dv σ X := by
  obtain ⟨left, rk, r1, r2⟩ := hR.ex
  obtain ⟨set, af, kv, d1, d2, d3, d4⟩ := h.ex
  have hap := apart r1 d1 d2
  have hn : ∀ b ∈ dkS p bb dv, b ∉ rfS r ov av wv := fun b hb hm => hap b hm hb
  obtain ⟨xs, ho, hx⟩ := d2.ex
  have uneq : ∀ b cs, Blk w b cs 5 → b ∉ rfS r ov av wv := fun b cs hbk hm => by
    simp only [rfS, List.mem_cons, List.mem_append, Option.mem_toList] at hm
    rcases hm with h | h | h | h
    · exact blk_ne hbk r1.kr (by decide) h
    · obtain ⟨ds, hds⟩ := owns_blk r1.on h
      exact blk_ne hbk hds (by decide) rfl
    · obtain ⟨ds, hds⟩ := owns_blk r1.at_ h
      exact blk_ne hbk hds (by decide) rfl
    · obtain ⟨ds, hds⟩ := owns_blk r1.wt h
      exact blk_ne hbk hds (by decide) rfl
  refine ⟨⟨set, af, kv, ⟨hb.blk d1.kp (hn p (by simp [dkS])), hb.blk d1.kb (hn bb (by simp [dkS])), d1.ne, d1.len, d1.z1, d1.z2, d1.n1, d1.n2, d1.small⟩, ⟨xs, owns_in ho hb (fun b h => hn b (by simp [dkS, h])), fun j hj => ?_⟩, d3, fun hon => (d4 hon).imp id ?_⟩, h.lo⟩
  · obtain ⟨e1, a, c, e2, e3, e4⟩ := hx j hj
    refine ⟨e1, a, c, e2, e3.in_ hb (fun q hq => ?_), e4⟩
    obtain ⟨ds, hds⟩ := e3.ty q hq
    exact uneq _ _ hds
  · rintro ⟨a, ks, da, dc, e1, e2, e3, e4, e5, e6, e7, e8⟩
    exact ⟨a, ks, da, dc, e1, e2, e3, e4, e5, e6, e7.change hb (fun b hb => List.mem_append_right _ hb) (fun b hb => by
      rcases List.mem_append.1 hb with h | h
      · exact .inl (List.mem_append_left _ h)
      · exact (hs b h).imp (List.mem_append_right _) id), e8⟩
end Go.Proofs.Ytmpgnpkodapidaa

namespace Go.Proofs.Ytmpgnpkodapidaa
open Go.ChangeShapes Go.WideShapes Go.ChangeAt Go.RowKit

def PS.wr (z : Nat) (σ : PS) (x : Nat × List Int) : PS := match σ.fl with
  | none => ⟨true, σ.On, σ.ws ++ [x], none⟩
  | some (a, ks) => if a ≤ 0 then ⟨false, crashR z ks (σ.ws ++ [x]) σ.On (σ.ws.length + 1), [], none⟩ else ⟨true, σ.On, σ.ws ++ [x], some (a - 1, ks)⟩
def PS.co (σ : PS) : Int := match σ.fl with
  | none => 0
  | some (a, _) => if a ≤ 0 then 9 else 0
def PS.sy (z : Nat) (σ : PS) : PS := match σ.fl with
  | none => ⟨true, syncR σ.ws σ.On σ.ws.length, [], none⟩
  | some (a, ks) => if a ≤ 0 then ⟨false, crashR z ks σ.ws σ.On σ.ws.length, [], none⟩ else ⟨true, syncR σ.ws σ.On σ.ws.length, [], some (a - 1, ks)⟩
def PS.cr (z : Nat) (σ : PS) (ks : List Int) : PS := if σ.on = true then ⟨false, crashR z ks σ.ws σ.On σ.ws.length, [], none⟩ else σ
def PS.fa (σ : PS) (k : Int) (ks : List Int) : PS := if σ.on = true then ⟨true, σ.On, σ.ws, if k < 0 then none else some (k, ks)⟩ else σ
def PS.bo (σ : PS) : PS := ⟨true, σ.On, σ.ws, none⟩
def PS.re (z : Nat) (σ : PS) (t : List Int) : PS := ⟨σ.on, restR z t σ.On σ.On.length, [], σ.fl⟩

theorem dkS_grow {p bb : Nat} {dv v2 : Value} {m : Nat} (h : v2.ownBlock = dv.ownBlock ∨ ∃ g, v2.ownBlock = some g ∧ m ≤ g) : ∀ b ∈ dkS p bb v2, b ∈ dkS p bb dv ∨ m ≤ b := by
  intro b hb
  simp only [dkS, List.mem_cons, Option.mem_toList] at hb ⊢
  rcases hb with h1 | h1 | h1
  · exact .inl (.inl h1)
  · exact .inl (.inr (.inl h1))
  · rcases h with h | ⟨g, h, hg⟩
    · exact .inl (.inr (.inr (h ▸ h1)))
    · rw [h] at h1; cases h1; exact .inr hg
theorem dkS_nil {p bb : Nat} {dv : Value} {m : Nat} : ∀ b ∈ dkS p bb (.slice none 0 0), b ∈ dkS p bb dv ∨ m ≤ b := by
  intro b hb
  simp only [dkS, List.mem_cons, Option.mem_toList, Value.ownBlock] at hb ⊢
  rcases hb with h1 | h1 | h1
  · exact .inl (.inl h1)
  · exact .inl (.inr (.inl h1))
  · cases h1
theorem dkS_sub {p bb : Nat} {dv : Value} : ∀ b ∈ p :: dv.ownBlock.toList, b ∈ dkS p bb dv := by
  intro b hb
  simp only [dkS, List.mem_cons] at hb ⊢
  rcases hb with h | h
  · exact .inl h
  · exact .inr (.inr h)
theorem dkS_two {p bb : Nat} {dv : Value} : ∀ b ∈ [p, bb], b ∈ dkS p bb dv := by
  intro b hb
  simp only [dkS, List.mem_cons, List.not_mem_nil, or_false] at hb ⊢
  rcases hb with h | h
  · exact .inl h
  · exact .inr (.inl h)
theorem DkS.below {w w' : World} {N p bb z n : Nat} {dv : Value} {σ : PS} {X : List Nat} (h : DkS w N p bb z n dv σ X) (hb : Below w.heap.size w w') : DkS w' N p bb z n dv σ X := by
  obtain ⟨⟨set, af, kv, d1, d2, d3, d4⟩, hlo⟩ := h
  obtain ⟨xs, ho, hx⟩ := d2.ex
  refine ⟨⟨set, af, kv, d1.below hb, ⟨xs, owns_in ho (ButIn.of_below (S := []) hb) (by simp), fun j hj => ?_⟩, d3, fun hon => (d4 hon).imp id ?_⟩, hlo⟩
  · obtain ⟨e1, a, c, e2, e3, e4⟩ := hx j hj
    exact ⟨e1, a, c, e2, e3.in_ (ButIn.of_below (S := []) hb) (by simp), e4⟩
  · rintro ⟨a, ks, da, dc, e1, e2, e3, e4, e5, e6, e7, e8⟩
    exact ⟨a, ks, da, dc, e1, e2, e3, e4, e5, e6, e7.butIn (ButIn.of_below hb), e8⟩
/-- what waits, as the older contracts want it -/
theorem DkS.wait {w : World} {p bb z n N : Nat} {B : List Int} {dv : Value} {on set : Bool} {af : Int} {kv : Value} {ws : List (Nat × List Int)} (d1 : DkAt w p bb z n B dv on set af kv) (d2 : WaitU w N bb z dv ws) : ∃ wa wc, dv = .slice wa ws.length wc ∧ WaitAt w [p, bb] z wa wc ws := by
  obtain ⟨xs, ho, -⟩ := d2.ex
  exact d2.at_ d1.kp (owns_ne d1.kb ho (by decide))
theorem dwrite_any (w : World) (N p bb z n c : Nat) (dv : Value) (σ : PS) (X : List Nat) (hD : DkS w N p bb z n dv σ X) (hk : σ.Ok n z c) (hc : c ≤ 900) (hon : σ.on = true) (hN : N ≤ w.heap.size) (i : Nat) (hi : i < n) (ta : Option Addr) (tc : Nat) (t : List Int) (ht : TextO w (dkS p bb dv) ta z tc t) :
    Calls Try.prog 16 #[.pointer (some ⟨p, 0, none⟩), .int .i64 i, .slice ta z tc] w fun e w' => e = .returned (.int .i64 σ.co) ∧ FlowB.ButIn (dkS p bb dv) w w' ∧ ∃ v2, DkS w' N p bb z n v2 (σ.wr z (i, t)) X ∧ ∀ b ∈ dkS p bb v2, b ∈ dkS p bb dv ∨ w.heap.size ≤ b := by
  obtain ⟨⟨set, af, kv, d1, d2, d3, d4⟩, hlo⟩ := hD
  obtain ⟨on, On, ws, fl⟩ := σ
  obtain ⟨k1, k2, k3, k4, k5⟩ := hk
  dsimp only at *
  subst hon
  have hl : t.length = z := ht.text.length
  have hT : TextO w (p :: dv.ownBlock.toList) ta z tc t := ⟨ht.text, fun q hq hm => ht.out q hq (dkS_sub _ hm)⟩
  obtain ⟨hf, hs⟩ | ⟨a, ks, da, dc, hf, hs, ha, h0, h1, hkv, hK, hw⟩ := d4 rfl
  · subst hf hs
    refine (write_unsetU w N p bb z n _ dv ws af kv d1 d2 (by omega) hN i hi ta tc t hT).mono ?_
    rintro e w' ⟨rfl, b, v2, e1, e2, e3⟩
    exact ⟨rfl, ButIn.wide b dkS_sub, v2, ⟨⟨_, _, _, e1, e2, fun h => (nomatch h), fun _ => .inl ⟨rfl, rfl⟩⟩, hlo⟩, dkS_grow e3⟩
  · subst hf hs ha hkv
    by_cases hz : af ≤ 0
    · refine (write_hitU w N p bb z n _ dv ws af da dc ks d1 hz (hK.sub (fun b hb => List.mem_append_left _ hb)) hw k3 d2 (by omega) hN i hi ta tc t hT).mono ?_
      rintro e w' ⟨rfl, b, e1⟩
      rw [crashR_ok z ks (ws ++ [(i, t)]) On k2 (fun x hx => by
        rcases List.mem_append.1 hx with h | h
        · rw [k1]; exact k3 x h
        · simp only [List.mem_singleton] at h; subst h; exact ⟨by rw [k1]; exact hi, hl⟩) (ws.length + 1) (by simp)] at e1
      refine ⟨by simp only [PS.co, if_pos hz], b, .slice none 0 0, ?_, dkS_nil⟩
      simp only [PS.wr, if_pos hz]
      exact ⟨⟨_, _, _, e1, WaitU.nil _ _ _ _, fun _ => rfl, fun h => (nomatch h)⟩, hlo⟩
    · refine (write_countU w N p bb z n _ dv ws af _ d1 (by omega) h1 d2 (by omega) hN i hi ta tc t hT).mono ?_
      rintro e w' ⟨rfl, b, v2, e1, e2, e3⟩
      have b2 := ButIn.wide (S' := dkS p bb dv) b dkS_sub
      refine ⟨by simp only [PS.co, if_neg hz], b2, v2, ?_, dkS_grow e3⟩
      simp only [PS.wr, if_neg hz]
      refine ⟨⟨_, _, _, e1, e2, fun h => (nomatch h), fun _ => .inr ⟨_, _, da, dc, rfl, rfl, rfl, by omega, by omega, rfl, ?_, hw⟩⟩, hlo⟩
      exact hK.change b2 (fun b hb => List.mem_append_left _ hb) (fun b hb => by
        rcases List.mem_append.1 hb with h | h
        · exact (dkS_grow e3 b h).imp (List.mem_append_left _) id
        · exact .inl (List.mem_append_right _ h))
theorem dsync_any (w : World) (N p bb z n c : Nat) (dv : Value) (σ : PS) (X : List Nat) (hD : DkS w N p bb z n dv σ X) (hk : σ.Ok n z c) (hc : c ≤ 900) (hon : σ.on = true) :
    Calls Try.prog 17 #[.pointer (some ⟨p, 0, none⟩)] w fun e w' => e = .returned (.int .i64 σ.co) ∧ FlowB.ButIn (dkS p bb dv) w w' ∧ DkS w' N p bb z n (.slice none 0 0) (σ.sy z) X := by
  obtain ⟨⟨set, af, kv, d1, d2, d3, d4⟩, hlo⟩ := hD
  obtain ⟨on, On, ws, fl⟩ := σ
  obtain ⟨k1, k2, k3, k4, k5⟩ := hk
  dsimp only at *
  subst hon
  obtain ⟨wa, wc, rfl, hW⟩ := DkS.wait d1 d2
  have kw : ∀ x ∈ ws, x.1 < On.length ∧ x.2.length = z := fun x hx => by rw [k1]; exact k3 x hx
  obtain ⟨hf, hs⟩ | ⟨a, ks, da, dc, hf, hs, ha, h0, h1, hkv, hK, hw⟩ := d4 rfl
  · subst hf hs
    refine (sync_any w p bb z n _ af kv wa wc ws d1 hW k3 (by omega)).mono ?_
    rintro e w' ⟨rfl, b, e1⟩
    rw [(syncR_ok z ws On k2 kw ws.length (by omega)).2] at e1
    exact ⟨rfl, ButIn.wide b dkS_two, ⟨⟨_, _, _, e1, WaitU.nil _ _ _ _, fun h => (nomatch h), fun _ => .inl ⟨rfl, rfl⟩⟩, hlo⟩⟩
  · subst hf hs ha hkv
    by_cases hz : af ≤ 0
    · refine (sync_hit w p bb z n _ af da dc ks wa wc ws d1 hW k3 (by omega) hz (hK.sub (fun b hb => List.mem_append_left _ (dkS_two b hb))) hw).mono ?_
      rintro e w' ⟨rfl, b, e1⟩
      rw [crashR_ok z ks ws On k2 kw ws.length (by omega)] at e1
      refine ⟨by simp only [PS.co, if_pos hz], ButIn.wide b dkS_two, ?_⟩
      simp only [PS.sy, if_pos hz]
      exact ⟨⟨_, _, _, e1, WaitU.nil _ _ _ _, fun _ => rfl, fun h => (nomatch h)⟩, hlo⟩
    · refine (sync_count w p bb z n _ af _ wa wc ws d1 hW k3 (by omega) (by omega) h1).mono ?_
      rintro e w' ⟨rfl, b, e1⟩
      rw [(syncR_ok z ws On k2 kw ws.length (by omega)).2] at e1
      have b2 := ButIn.wide (S' := dkS p bb (.slice wa ws.length wc)) b dkS_two
      refine ⟨by simp only [PS.co, if_neg hz], b2, ?_⟩
      simp only [PS.sy, if_neg hz]
      refine ⟨⟨_, _, _, e1, WaitU.nil _ _ _ _, fun h => (nomatch h), fun _ => .inr ⟨_, _, da, dc, rfl, rfl, rfl, by omega, by omega, rfl, ?_, hw⟩⟩, hlo⟩
      exact hK.change b2 (fun b hb => List.mem_append_left _ hb) (fun b hb => by
        rcases List.mem_append.1 hb with h | h
        · exact (dkS_nil b h).imp (List.mem_append_left _) id
        · exact .inl (List.mem_append_right _ h))
theorem dcrash_any (w : World) (N p bb z n c : Nat) (dv : Value) (σ : PS) (X : List Nat) (hD : DkS w N p bb z n dv σ X) (hk : σ.Ok n z c) (hc : c ≤ 900) (ka : Option Addr) (kc : Nat) (ks : List Int) (hK : IntsAt w [p, bb] ka ks) (hw : ∀ k ∈ ks, -9223372036854775808 ≤ k ∧ k ≤ 9223372036854775807) :
    Calls Try.prog 18 #[.pointer (some ⟨p, 0, none⟩), .slice ka ks.length kc] w fun e w' => e = .returned (.tuple #[]) ∧ FlowB.ButIn (dkS p bb dv) w w' ∧ DkS w' N p bb z n (.slice none 0 0) (σ.cr z ks) X := by
  have hD0 := hD
  obtain ⟨⟨set, af, kv, d1, d2, d3, d4⟩, hlo⟩ := hD
  obtain ⟨on, On, ws, fl⟩ := σ
  obtain ⟨k1, k2, k3, k4, k5⟩ := hk
  dsimp only at *
  cases on
  · have := d3 rfl
    subst this
    refine (crash_off w p bb z n _ _ set af kv _ d1).mono ?_
    rintro e w' ⟨rfl, b⟩
    exact ⟨rfl, ButIn.of_below b, hD0.below b⟩
  · obtain ⟨wa, wc, rfl, hW⟩ := DkS.wait d1 d2
    have kw : ∀ x ∈ ws, x.1 < On.length ∧ x.2.length = z := fun x hx => by rw [k1]; exact k3 x hx
    refine (crash_any w p bb z n _ set af kv wa wc ws ka kc ks hK hw d1 hW k3 (by omega)).mono ?_
    rintro e w' ⟨rfl, b, e1⟩
    rw [crashR_ok z ks ws On k2 kw ws.length (by omega)] at e1
    exact ⟨rfl, ButIn.wide b dkS_two, ⟨⟨_, _, _, e1, WaitU.nil _ _ _ _, fun _ => rfl, fun h => (nomatch h)⟩, hlo⟩⟩
theorem dkS_lt {w : World} {N p bb z n : Nat} {dv : Value} {σ : PS} {X : List Nat} (hD : DkS w N p bb z n dv σ X) : ∀ b ∈ dkS p bb dv, N ≤ b ∧ b < w.heap.size := by
  obtain ⟨⟨set, af, kv, d1, d2, d3, d4⟩, hlo⟩ := hD
  obtain ⟨xs, ho, -⟩ := d2.ex
  intro b hb
  simp only [dkS, List.mem_cons, Option.mem_toList] at hb
  rcases hb with h | h | h
  · rw [h]; exact ⟨hlo.1, d1.kp.lt⟩
  · rw [h]; exact ⟨hlo.2, d1.kb.lt⟩
  · exact ho.lt b h
theorem waits_but {w w' : World} {N p bb z : Nat} {cs : Array Value} {dv : Value} {ws : List (Nat × List Int)} (d2 : WaitU w N bb z dv ws) (kp : Blk w p cs 75) (b : But p w w') : WaitU w' N bb z dv ws := by
  obtain ⟨xs, ho, hx⟩ := d2.ex
  have b2 := ButIn.of_but (S := [p]) b (by simp)
  refine ⟨xs, owns_in ho b2 (fun q hq hm => ?_), fun j hj => ?_⟩
  · simp only [List.mem_singleton] at hm
    exact owns_ne kp ho (by decide) q hq hm
  · obtain ⟨e1, a, c, e2, e3, e4⟩ := hx j hj
    refine ⟨e1, a, c, e2, e3.in_ b2 (fun q hq hm => ?_), e4⟩
    obtain ⟨ds, hds⟩ := e3.ty q hq
    simp only [List.mem_singleton] at hm
    exact blk_ne hds kp (by decide) hm
theorem dfail_any (w : World) (N p bb z n : Nat) (dv : Value) (σ : PS) (X : List Nat) (hD : DkS w N p bb z n dv σ X) (hX : ∀ b ∈ X, b < w.heap.size) (k : Int) (hk2 : k < 9223372036854775808) (ka : Option Addr) (kc : Nat) (ks : List Int) (hK : IntsAt w (dkS p bb dv ++ X) ka ks) (hl : ks.length ≤ 1000) (hn : ka = none → ks = [] ∧ kc = 0) (hw : ∀ k ∈ ks, -9223372036854775808 ≤ k ∧ k ≤ 9223372036854775807) :
    Calls Try.prog 23 #[.pointer (some ⟨p, 0, none⟩), .int .i64 k, .slice ka ks.length kc] w fun e w' => e = .returned (.tuple #[]) ∧ FlowB.ButIn (dkS p bb dv) w w' ∧ DkS w' N p bb z n dv (σ.fa k ks) X := by
  have hlt := dkS_lt hD
  obtain ⟨⟨set, af, kv, d1, d2, d3, d4⟩, hlo⟩ := hD
  obtain ⟨on, On, ws, fl⟩ := σ
  dsimp only at *
  have hp : p ∈ dkS p bb dv := by simp [dkS]
  by_cases h : k < 0
  · refine (fail_none w p z On.flatten.length bb dv on set af kv d1.kp k h _).mono ?_
    rintro e w' ⟨rfl, b, kk⟩
    refine ⟨rfl, ButIn.of_but b hp, ?_⟩
    have e1 : DkAt w' p bb z n On.flatten dv on false 0 (.slice none 0 0) := ⟨kk, b.blk d1.kb (Ne.symm d1.ne), d1.ne, d1.len, d1.z1, d1.z2, d1.n1, d1.n2, d1.small⟩
    have e2 := waits_but d2 d1.kp b
    cases on
    · exact ⟨⟨_, _, _, e1, e2, d3, fun h => (nomatch h)⟩, hlo⟩
    · simp only [PS.fa, if_pos h]
      exact ⟨⟨_, _, _, e1, e2, d3, fun _ => .inl ⟨rfl, rfl⟩⟩, hlo⟩
  · refine (fail_at w (dkS p bb dv ++ X) p bb z n _ dv on set af kv d1 k (by omega) ka kc ks (List.mem_append_left _ hp) (fun b hb => by
      rcases List.mem_append.1 hb with h | h
      · exact (hlt b h).2
      · exact hX b h) hK hl hn).mono ?_
    rintro e w' ⟨rfl, b, a, c, e1, e3⟩
    have e2 := waits_but d2 d1.kp b
    refine ⟨rfl, ButIn.of_but b hp, ?_⟩
    cases on
    · exact ⟨⟨_, _, _, e1, e2, d3, fun h => (nomatch h)⟩, hlo⟩
    · simp only [PS.fa, if_neg h]
      exact ⟨⟨_, _, _, e1, e2, d3, fun _ => .inr ⟨_, _, a, c, rfl, rfl, rfl, by omega, hk2, rfl, e3, hw⟩⟩, hlo⟩
theorem dboot_any (w : World) (N p bb z n : Nat) (dv : Value) (σ : PS) (X : List Nat) (hD : DkS w N p bb z n dv σ X) :
    Calls Try.prog 19 #[.pointer (some ⟨p, 0, none⟩)] w fun e w' => e = .returned (.tuple #[]) ∧ FlowB.ButIn (dkS p bb dv) w w' ∧ DkS w' N p bb z n dv σ.bo X := by
  obtain ⟨⟨set, af, kv, d1, d2, d3, d4⟩, hlo⟩ := hD
  refine (boot_any w p bb z n _ dv σ.on set af kv d1).mono ?_
  rintro e w' ⟨rfl, b, e1⟩
  exact ⟨rfl, ButIn.of_but b (by simp [dkS]), ⟨⟨_, _, _, e1, waits_but d2 d1.kp b, fun h => (nomatch h), fun _ => .inl ⟨rfl, rfl⟩⟩, hlo⟩⟩
theorem drestore_any (w : World) (N p bb z n c : Nat) (dv : Value) (σ : PS) (X : List Nat) (hD : DkS w N p bb z n dv σ X) (hk : σ.Ok n z c) (ta : Option Addr) (tc : Nat) (t : List Int) (m : Nat) (hm : m = n * z) (hT : TextAt w ta m tc t) :
    Calls Try.prog 32 #[.pointer (some ⟨p, 0, none⟩), .slice ta m tc] w fun e w' => e = .returned (.int .i64 0) ∧ FlowB.ButIn (dkS p bb dv) w w' ∧ DkS w' N p bb z n (.slice none 0 0) (σ.re z t) X := by
  obtain ⟨⟨set, af, kv, d1, d2, d3, d4⟩, hlo⟩ := hD
  obtain ⟨on, On, ws, fl⟩ := σ
  obtain ⟨k1, k2, k3, k4, k5⟩ := hk
  dsimp only at *
  have hl : t.length = On.length * z := by rw [hT.length, hm, k1]
  refine (restore_ok w p bb z n m _ dv on set af kv d1 hm ta tc t hT).mono ?_
  rintro e w' ⟨rfl, b, e1⟩
  have hr : t = (restR z t On On.length).flatten := by
    rw [(restR_ok z t On k2 hl On.length (Nat.le_refl _)).2, List.take_of_length_le (by omega), List.drop_eq_nil_of_le (by rw [flat_len z On k2]; exact Nat.le_refl _), List.append_nil]
  have b2 := ButIn.wide (S' := dkS p bb dv) b dkS_two
  refine ⟨rfl, b2, ⟨⟨set, af, kv, ?_, WaitU.nil _ _ _ _, fun _ => rfl, fun hon => (d4 hon).imp id ?_⟩, hlo⟩⟩
  · show DkAt w' p bb z n (restR z t On On.length).flatten _ on set af kv
    rw [← hr]; exact e1
  · rintro ⟨a, ks, da, dc, q1, q2, q3, q4, q5, q6, q7, q8⟩
    exact ⟨a, ks, da, dc, q1, q2, q3, q4, q5, q6, q7.change b2 (fun b hb => List.mem_append_left _ hb) (fun b hb => by
      rcases List.mem_append.1 hb with h | h
      · exact (dkS_nil b h).imp (List.mem_append_left _) id
      · exact .inl (List.mem_append_right _ h)), q8⟩
end Go.Proofs.Ytmpgnpkodapidaa

namespace Go.Proofs.Ytmpgnpkodapidaa
open Go.ChangeShapes Go.WideShapes Go.ChangeAt Go.RowKit

theorem rfS_nil {r m : Nat} {ov av wv : Value} : ∀ b ∈ rfS r ov (.slice none 0 0) (.slice none 0 0), b ∈ rfS r ov av wv ∨ m ≤ b := by
  intro b hb
  simp only [rfS, List.mem_cons, List.mem_append, Option.mem_toList, Value.ownBlock] at hb ⊢
  rcases hb with h | h | h | h
  · exact .inl (.inl h)
  · exact .inl (.inr (.inl h))
  · cases h
  · cases h
theorem rfS_grow {r m : Nat} {ov av wv av2 wv2 : Value} (h1 : av2.ownBlock = av.ownBlock ∨ ∃ g, av2.ownBlock = some g ∧ m ≤ g) (h2 : wv2.ownBlock = wv.ownBlock ∨ ∃ g, wv2.ownBlock = some g ∧ m ≤ g) : ∀ b ∈ rfS r ov av2 wv2, b ∈ rfS r ov av wv ∨ m ≤ b := by
  intro b hb
  simp only [rfS, List.mem_cons, List.mem_append, Option.mem_toList] at hb ⊢
  rcases hb with h | h | h | h
  · exact .inl (.inl h)
  · exact .inl (.inr (.inl h))
  · rcases h1 with e | ⟨g, e, hg⟩
    · exact .inl (.inr (.inr (.inl (e ▸ h))))
    · rw [e] at h; cases h; exact .inr hg
  · rcases h2 with e | ⟨g, e, hg⟩
    · exact .inl (.inr (.inr (.inr (e ▸ h))))
    · rw [e] at h; cases h; exact .inr hg
theorem rfS_lt2 {w : World} {N r z : Nat} {ov av wv : Value} {σ : PS} {Y : List Nat} (h : RfS w N r z ov av wv σ Y) : ∀ b ∈ rfS r ov av wv, N ≤ b ∧ b < w.heap.size := by
  obtain ⟨left, rk, h1, -⟩ := h.ex
  exact rfS_lt h1
theorem RfS.below {w w' : World} {N r z : Nat} {ov av wv : Value} {σ : PS} {Y : List Nat} (h : RfS w N r z ov av wv σ Y) (hb : Below w.heap.size w w') : RfS w' N r z ov av wv σ Y := by
  obtain ⟨left, rk, h1, h2⟩ := h.ex
  refine ⟨left, rk, h1.below hb, fun ho => (h2 ho).imp id ?_⟩
  rintro ⟨a, ks, ka, kc, e1, e2, e3, e4, e5, e6⟩
  exact ⟨a, ks, ka, kc, e1, e2, e3, e4, e5, e6.butIn (ButIn.of_below hb)⟩
theorem keep_in {w w' : World} {S S' Y : List Nat} {ka : Option Addr} {ks : List Int} (h : IntsAt w (S ++ Y) ka ks) (hb : FlowB.ButIn S w w') (hs : ∀ b ∈ S', b ∈ S ∨ w.heap.size ≤ b) : IntsAt w' (S' ++ Y) ka ks :=
  h.change hb (fun _ hb => List.mem_append_left _ hb) (fun b hb => by
    rcases List.mem_append.1 hb with h | h
    · exact (hs b h).imp (List.mem_append_left _) id
    · exact .inl (List.mem_append_right _ h))
theorem rwrite_any (w : World) (N r z n c : Nat) (ov av wv : Value) (σ : PS) (Y : List Nat) (hR : RfS w N r z ov av wv σ Y) (hk : σ.Ok n z c) (hc : c ≤ 900) (hz : z ≤ 512) (hn1 : 1 ≤ n) (hon : σ.on = true) (i : Nat) (hi : i < n) (ta : Option Addr) (tc : Nat) (t : List Int) (ht : TextO w (rfS r ov av wv) ta z tc t) :
    Calls Try.prog 35 #[.pointer (some ⟨r, 0, none⟩), .int .i64 i, .slice ta z tc] w fun e w' => e = .returned (.int .i64 σ.co) ∧ FlowB.ButIn (rfS r ov av wv) w w' ∧ ∃ av2 wv2, RfS w' N r z ov av2 wv2 (σ.wr z (i, t)) Y ∧ ∀ b ∈ rfS r ov av2 wv2, b ∈ rfS r ov av wv ∨ w.heap.size ≤ b := by
  obtain ⟨left, rk, h1, h2⟩ := hR
  obtain ⟨on, On, ws, fl⟩ := σ
  obtain ⟨k1, k2, k3, k4, k5⟩ := hk
  dsimp only at *
  subst hon
  have kw : ∀ x ∈ ws, x.1 < On.length ∧ x.2.length = z := fun x hx => by rw [k1]; exact k3 x hx
  obtain ⟨hf, hs⟩ | ⟨a, ks, da, dc, hf, ha, h0, h9, hkv, hK⟩ := h2 rfl
  · subst hf hs
    refine (refwrite_no w N r z ov av wv On ws (-1) rk h1 (by decide) (by decide) (by omega) i (by omega) ta tc t ht).mono ?_
    rintro e w' ⟨rfl, b, av2, wv2, e1, e2, e3⟩
    exact ⟨rfl, b, av2, wv2, ⟨_, _, e1, fun _ => .inl ⟨rfl, rfl⟩⟩, rfS_grow e2 e3⟩
  · subst hf ha hkv
    by_cases hq : left ≤ 0
    · have : left = 0 := by omega
      subst this
      refine (refwrite_hit w N r z ov av wv On ws da dc ks h1 hz (by omega) k2 kw (hK.sub (fun b hb => List.mem_append_left _ hb)) (by omega) i (by omega) ta tc t ht).mono ?_
      rintro e w' ⟨rfl, b, e1⟩
      exact ⟨rfl, b, _, _, ⟨_, _, e1, fun h => (nomatch h)⟩, rfS_nil⟩
    · refine (refwrite_no w N r z ov av wv On ws left _ h1 (by omega) h9 (by omega) i (by omega) ta tc t ht).mono ?_
      rintro e w' ⟨rfl, b, av2, wv2, e1, e2, e3⟩
      have e4 := rfS_grow (r := r) (ov := ov) e2 e3
      rw [if_pos (show 0 < left by omega)] at e1
      refine ⟨by simp only [PS.co, if_neg hq], b, av2, wv2, ?_, e4⟩
      simp only [PS.wr, if_neg hq]
      exact ⟨_, _, e1, fun _ => .inr ⟨_, _, da, dc, rfl, rfl, by omega, by omega, rfl, keep_in hK b e4⟩⟩
theorem rsync_any (w : World) (N r z n c : Nat) (ov av wv : Value) (σ : PS) (Y : List Nat) (hR : RfS w N r z ov av wv σ Y) (hk : σ.Ok n z c) (hc : c ≤ 900) (hz : z ≤ 512) (hn1 : 1 ≤ n) (hon : σ.on = true) :
    Calls Try.prog 37 #[.pointer (some ⟨r, 0, none⟩)] w fun e w' => e = .returned (.int .i64 σ.co) ∧ FlowB.ButIn (rfS r ov av wv) w w' ∧ RfS w' N r z ov (.slice none 0 0) (.slice none 0 0) (σ.sy z) Y := by
  obtain ⟨left, rk, h1, h2⟩ := hR
  obtain ⟨on, On, ws, fl⟩ := σ
  obtain ⟨k1, k2, k3, k4, k5⟩ := hk
  dsimp only at *
  subst hon
  have kw : ∀ x ∈ ws, x.1 < On.length ∧ x.2.length = z := fun x hx => by rw [k1]; exact k3 x hx
  obtain ⟨hf, hs⟩ | ⟨a, ks, da, dc, hf, ha, h0, h9, hkv, hK⟩ := h2 rfl
  · subst hf hs
    refine (refsync_no w N r z ov av wv On ws (-1) rk h1 (by decide) (by decide) (by omega) kw (by omega)).mono ?_
    rintro e w' ⟨rfl, b, e1⟩
    exact ⟨rfl, b, ⟨_, _, e1, fun _ => .inl ⟨rfl, rfl⟩⟩⟩
  · subst hf ha hkv
    by_cases hq : left ≤ 0
    · have : left = 0 := by omega
      subst this
      refine (refsync_hit w N r z ov av wv On ws da dc ks h1 hz (by omega) k2 kw (by omega) (hK.sub (fun b hb => List.mem_append_left _ hb))).mono ?_
      rintro e w' ⟨rfl, b, e1⟩
      exact ⟨rfl, b, ⟨_, _, e1, fun h => (nomatch h)⟩⟩
    · refine (refsync_no w N r z ov av wv On ws left _ h1 (by omega) h9 (by omega) kw (by omega)).mono ?_
      rintro e w' ⟨rfl, b, e1⟩
      rw [if_pos (show 0 < left by omega)] at e1
      refine ⟨by simp only [PS.co, if_neg hq], b, ?_⟩
      simp only [PS.sy, if_neg hq]
      exact ⟨_, _, e1, fun _ => .inr ⟨_, _, da, dc, rfl, rfl, by omega, by omega, rfl, keep_in hK b rfS_nil⟩⟩
theorem rcrash_any (w : World) (N r z n c : Nat) (ov av wv : Value) (σ : PS) (Y : List Nat) (hR : RfS w N r z ov av wv σ Y) (hk : σ.Ok n z c) (hc : c ≤ 900) (hz : z ≤ 512) (hn1 : 1 ≤ n) (ka : Option Addr) (kc : Nat) (ks : List Int) (hK : IntsAt w (rfS r ov av wv) ka ks) :
    Calls Try.prog 39 #[.pointer (some ⟨r, 0, none⟩), .slice ka ks.length kc] w fun e w' => e = .returned (.tuple #[]) ∧ FlowB.ButIn (rfS r ov av wv) w w' ∧ ∃ av2 wv2, RfS w' N r z ov av2 wv2 (σ.cr z ks) Y ∧ ∀ b ∈ rfS r ov av2 wv2, b ∈ rfS r ov av wv ∨ w.heap.size ≤ b := by
  have hR0 := hR
  obtain ⟨left, rk, h1, h2⟩ := hR
  obtain ⟨on, On, ws, fl⟩ := σ
  obtain ⟨k1, k2, k3, k4, k5⟩ := hk
  dsimp only at *
  have kw : ∀ x ∈ ws, x.1 < On.length ∧ x.2.length = z := fun x hx => by rw [k1]; exact k3 x hx
  cases on
  · refine (refcrash_off w N r z ov av wv On ws left rk h1 _).mono ?_
    rintro e w' ⟨rfl, b⟩
    exact ⟨rfl, ButIn.of_below b, av, wv, hR0.below b, fun b hb => .inl hb⟩
  · refine (refcrash_on w N r z ov av wv On ws left rk h1 hz (by omega) k2 kw (by omega) ka kc ks hK).mono ?_
    rintro e w' ⟨rfl, b, e1⟩
    exact ⟨rfl, b, _, _, ⟨_, _, e1, fun h => (nomatch h)⟩, rfS_nil⟩
theorem rfail_any (w : World) (N r z : Nat) (ov av wv : Value) (σ : PS) (Y : List Nat) (hR : RfS w N r z ov av wv σ Y) (k : Int) (hk2 : k < 9223372036854775808) (ka : Option Addr) (kc : Nat) (ks : List Int) (hK : IntsAt w (rfS r ov av wv ++ Y) ka ks) :
    Calls Try.prog 38 #[.pointer (some ⟨r, 0, none⟩), .int .i64 k, .slice ka ks.length kc] w fun e w' => e = .returned (.tuple #[]) ∧ FlowB.ButIn (rfS r ov av wv) w w' ∧ RfS w' N r z ov av wv (σ.fa k ks) Y := by
  have hR0 := hR
  obtain ⟨left, rk, h1, h2⟩ := hR
  obtain ⟨on, On, ws, fl⟩ := σ
  dsimp only at *
  cases on
  · refine (reffail_off w N r z ov av wv On ws left rk h1 k _).mono ?_
    rintro e w' ⟨rfl, b⟩
    exact ⟨rfl, ButIn.of_below b, hR0.below b⟩
  · refine (reffail_on w N r z ov av wv On ws left rk h1 k ka ks.length kc).mono ?_
    rintro e w' ⟨rfl, b, e1⟩
    have hb : FlowB.ButIn (rfS r ov av wv) w w' := ButIn.of_but b (by simp [rfS])
    refine ⟨rfl, hb, ?_⟩
    by_cases h : k < 0
    · rw [if_pos h] at e1
      simp only [PS.fa, if_pos h]
      exact ⟨_, _, e1, fun _ => .inl ⟨rfl, rfl⟩⟩
    · rw [if_neg h] at e1
      simp only [PS.fa, if_neg h]
      exact ⟨_, _, e1, fun _ => .inr ⟨_, _, ka, kc, rfl, rfl, by omega, hk2, rfl, keep_in hK hb (fun b hb => .inl hb)⟩⟩
theorem rboot_any (w : World) (N r z : Nat) (ov av wv : Value) (σ : PS) (Y : List Nat) (hR : RfS w N r z ov av wv σ Y) :
    Calls Try.prog 40 #[.pointer (some ⟨r, 0, none⟩)] w fun e w' => e = .returned (.tuple #[]) ∧ FlowB.ButIn (rfS r ov av wv) w w' ∧ RfS w' N r z ov av wv σ.bo Y := by
  obtain ⟨left, rk, h1, h2⟩ := hR
  refine (refboot_any w N r z ov av wv σ.On σ.ws (!σ.on) left rk h1).mono ?_
  rintro e w' ⟨rfl, b, e1⟩
  exact ⟨rfl, ButIn.of_but b (by simp [rfS]), ⟨_, _, e1, fun _ => .inl ⟨rfl, rfl⟩⟩⟩
theorem rrestore_any (w : World) (N r z n c : Nat) (ov av wv : Value) (σ : PS) (Y : List Nat) (hR : RfS w N r z ov av wv σ Y) (hk : σ.Ok n z c) (hz : z ≤ 512) (hn1 : 1 ≤ n) (hn2 : n ≤ 64) (t : List Int) (ht : t.length = n * z) :
    Calls Try.prog 41 #[.pointer (some ⟨r, 0, none⟩), .string (strOfNums t)] w fun e w' => e = .returned (.tuple #[]) ∧ FlowB.ButIn (rfS r ov av wv) w w' ∧ RfS w' N r z ov (.slice none 0 0) (.slice none 0 0) (σ.re z t) Y := by
  obtain ⟨left, rk, h1, h2⟩ := hR
  obtain ⟨on, On, ws, fl⟩ := σ
  obtain ⟨k1, k2, k3, k4, k5⟩ := hk
  dsimp only at *
  refine (refrestore_any w N r z ov av wv On ws (!on) left rk h1 hz (by omega) (by omega) t (by rw [ht, k1])).mono ?_
  rintro e w' ⟨rfl, b, e1⟩
  refine ⟨rfl, b, ⟨left, rk, e1, fun ho => (h2 ho).imp id ?_⟩⟩
  rintro ⟨a, ks, ka, kc, q1, q2, q3, q4, q5, q6⟩
  exact ⟨a, ks, ka, kc, q1, q2, q3, q4, q5, keep_in q6 b rfS_nil⟩
/-- the states go on -/
theorem PS.Ok.wr {σ : PS} {n z c : Nat} (h : σ.Ok n z c) (hon : σ.on = true) (i : Nat) (hi : i < n) (t : List Int) (ht : t.length = z) : (σ.wr z (i, t)).Ok n z (c + 1) := by
  obtain ⟨on, On, ws, fl⟩ := σ
  obtain ⟨k1, k2, k3, k4, k5⟩ := h
  dsimp only at *
  have hw : ∀ x ∈ ws ++ [(i, t)], x.1 < n ∧ x.2.length = z := fun x hx => by
    rcases List.mem_append.1 hx with h | h
    · exact k3 x h
    · simp only [List.mem_singleton] at h; subst h; exact ⟨hi, ht⟩
  have hl : (ws ++ [(i, t)]).length ≤ c + 1 := by simp only [List.length_append, List.length_singleton]; omega
  cases fl with
  | none => exact ⟨k1, k2, hw, hl, fun h => (nomatch h)⟩
  | some x =>
    obtain ⟨a, ks⟩ := x
    by_cases hq : a ≤ 0
    · simp only [PS.wr, if_pos hq]
      exact ⟨by rw [crashR_length]; exact k1, crashR_small z ks _ On k2 (fun x hx => by rw [k1]; exact hw x hx) _ (by simp), by simp, by simp, fun _ => rfl⟩
    · simp only [PS.wr, if_neg hq]
      exact ⟨k1, k2, hw, hl, fun h => (nomatch h)⟩
theorem PS.Ok.sy {σ : PS} {n z c : Nat} (h : σ.Ok n z c) : (σ.sy z).Ok n z c := by
  obtain ⟨on, On, ws, fl⟩ := σ
  obtain ⟨k1, k2, k3, k4, k5⟩ := h
  dsimp only at *
  have kw : ∀ x ∈ ws, x.1 < On.length ∧ x.2.length = z := fun x hx => by rw [k1]; exact k3 x hx
  have hs := (syncR_ok z ws On k2 kw ws.length (Nat.le_refl _)).1
  cases fl with
  | none => exact ⟨by rw [PS.sy, syncR_length]; exact k1, hs, by simp [PS.sy], by simp [PS.sy], fun h => (nomatch h)⟩
  | some x =>
    obtain ⟨a, ks⟩ := x
    by_cases hq : a ≤ 0
    · simp only [PS.sy, if_pos hq]
      exact ⟨by rw [crashR_length]; exact k1, crashR_small z ks _ On k2 kw _ (Nat.le_refl _), by simp, by simp, fun _ => rfl⟩
    · simp only [PS.sy, if_neg hq]
      exact ⟨by rw [syncR_length]; exact k1, hs, by simp, by simp, fun h => (nomatch h)⟩
theorem PS.Ok.cr {σ : PS} {n z c : Nat} (h : σ.Ok n z c) (ks : List Int) : (σ.cr z ks).Ok n z c := by
  have h0 := h
  obtain ⟨on, On, ws, fl⟩ := σ
  obtain ⟨k1, k2, k3, k4, k5⟩ := h
  dsimp only at *
  have kw : ∀ x ∈ ws, x.1 < On.length ∧ x.2.length = z := fun x hx => by rw [k1]; exact k3 x hx
  cases on
  · exact h0
  · exact ⟨by show (crashR z ks ws On ws.length).length = n; rw [crashR_length]; exact k1, crashR_small z ks _ On k2 kw _ (Nat.le_refl _), by simp [PS.cr], by simp [PS.cr], fun _ => rfl⟩
theorem PS.Ok.fa {σ : PS} {n z c : Nat} (h : σ.Ok n z c) (k : Int) (ks : List Int) : (σ.fa k ks).Ok n z c := by
  have h0 := h
  obtain ⟨on, On, ws, fl⟩ := σ
  obtain ⟨k1, k2, k3, k4, k5⟩ := h
  dsimp only at *
  cases on
  · exact h0
  · exact ⟨k1, k2, k3, k4, fun h => (nomatch h)⟩
theorem PS.Ok.bo {σ : PS} {n z c : Nat} (h : σ.Ok n z c) : σ.bo.Ok n z c := ⟨h.len, h.sec, h.wai, h.few, fun h => (nomatch h)⟩
theorem PS.Ok.re {σ : PS} {n z c : Nat} (h : σ.Ok n z c) (t : List Int) (ht : t.length = n * z) : (σ.re z t).Ok n z c :=
  ⟨by show (restR z t σ.On σ.On.length).length = n; rw [restR_length]; exact h.len, (restR_ok z t σ.On h.sec (by rw [ht, h.len]) _ (Nat.le_refl _)).1, by simp [PS.re], by simp [PS.re], fun _ => rfl⟩
end Go.Proofs.Ytmpgnpkodapidaa

namespace Go.Proofs.Ytmpgnpkodapidaa
open Go.ChangeShapes Go.WideShapes Go.ChangeAt Go.RowKit

structure Two (W w : World) (r p bb z n c : Nat) (dv ov av wv : Value) (σ : PS) : Prop where
  below : Below W.heap.size W w
  dk : DkS w W.heap.size p bb z n dv σ (rfS r ov av wv)
  rf : RfS w W.heap.size r z ov av wv σ (dkS p bb dv)
  ok : σ.Ok n z c
  z1 : 1 ≤ z
  z2 : z ≤ 512
  n1 : 1 ≤ n
  n2 : n ≤ 64
  few : c ≤ 800
theorem below_in {W w w1 : World} {N : Nat} {S : List Nat} (h : Below N W w) (b : FlowB.ButIn S w w1) (hN : N ≤ W.heap.size) (hS : ∀ b ∈ S, N ≤ b) : Below N W w1 :=
  ⟨b.os.trans h.os, b.tape.trans h.tape, b.output.trans h.output, Nat.le_trans h.size b.size, fun k hk => (b.block k (by have := h.size; omega) (fun q => by have := hS k q; omega)).trans (h.block k hk)⟩
theorem Two.on {W w w' : World} {r p bb z n c : Nat} {dv ov av wv : Value} {σ : PS} (h : Two W w r p bb z n c dv ov av wv σ) (b : Below w.heap.size w w') : Two W w' r p bb z n c dv ov av wv σ :=
  ⟨Below.on h.below b, h.dk.below b, h.rf.below b, h.ok, h.z1, h.z2, h.n1, h.n2, h.few⟩
/-- the program's disk goes first -/
theorem Two.first {W w w' : World} {r p bb z n c : Nat} {dv v2 ov av wv : Value} {σ : PS} (h : Two W w r p bb z n c dv ov av wv σ) (b : FlowB.ButIn (dkS p bb dv) w w') (hs : ∀ b ∈ dkS p bb v2, b ∈ dkS p bb dv ∨ w.heap.size ≤ b) : Below W.heap.size W w' ∧ RfS w' W.heap.size r z ov av wv σ (dkS p bb v2) :=
  ⟨below_in h.below b (Nat.le_refl _) (fun q hq => (dkS_lt h.dk q hq).1), h.rf.stay h.dk b hs⟩
/-- the document's disk comes second -/
theorem Two.second {W w w' : World} {r p bb z n c' : Nat} {v2 ov av wv av2 wv2 : Value} {σ τ : PS} (hB : Below W.heap.size W w) (hD : DkS w W.heap.size p bb z n v2 τ (rfS r ov av wv)) (hR : RfS w W.heap.size r z ov av wv σ (dkS p bb v2)) (b : FlowB.ButIn (rfS r ov av wv) w w') (hs : ∀ b ∈ rfS r ov av2 wv2, b ∈ rfS r ov av wv ∨ w.heap.size ≤ b) (hR2 : RfS w' W.heap.size r z ov av2 wv2 τ (dkS p bb v2)) (hk : τ.Ok n z c') (z1 : 1 ≤ z) (z2 : z ≤ 512) (n1 : 1 ≤ n) (n2 : n ≤ 64) (few : c' ≤ 800) : Two W w' r p bb z n c' v2 ov av2 wv2 τ :=
  ⟨below_in hB b (Nat.le_refl _) (fun q hq => (rfS_lt2 hR q hq).1), hD.stay hR b hs, hR2, hk, z1, z2, n1, n2, few⟩
/-- what comes in lies below both -/
theorem IntsAt.in_base {W w : World} {S : List Nat} {ka : Option Addr} {ks : List Int} (h : IntsAt W [] ka ks) (hb : Below W.heap.size W w) (hs : ∀ b ∈ S, W.heap.size ≤ b) : IntsAt w S ka ks := h.base hb hs
theorem PS.Ok.up {σ : PS} {n z c : Nat} (h : σ.Ok n z c) : σ.Ok n z (c + 1) := ⟨h.len, h.sec, h.wai, Nat.le_succ_of_le h.few, h.off⟩
set_option maxHeartbeats 4000000 in
set_option maxRecDepth 100000 in
theorem step_sync (W w : World) (r p bb z n c : Nat) (dv ov av wv : Value) (σ : PS) (hT : Two W w r p bb z n c dv ov av wv σ) (k : Int) (ba ka : Option Addr) (bl bc kc : Nat) (ks img : List Int) (hon : σ.on = true) (hc : c < 800) :
    Calls Try.prog 13 #[.pointer (some ⟨p, 0, none⟩), .pointer (some ⟨r, 0, none⟩), .agg #[.int .i64 2, .int .i64 k, .slice ba bl bc, .slice ka ks.length kc], .string (strOfNums img)] w fun e w' => e = .returned (.tuple #[.string (strOfNums img), .bool true]) ∧ ∃ v2 av2 wv2 τ, Two W w' r p bb z n (c + 1) v2 ov av2 wv2 τ := by
  have Kv := hid (Blk.new (w := w) (n := w.heap.size) rfl #[.int .i64 2, .int .i64 k, .slice ba bl bc, .slice ka ks.length kc] 34)
  have bw := (Below.refl w.heap.size w).alloc (Nat.le_refl _) (.cells #[.int .i64 2, .int .i64 k, .slice ba bl bc, .slice ka ks.length kc] 34 (0, 0))
  have HT := hid (hT.on bw)
  have z1 := hT.z1
  have z2 := hT.z2
  have n1 := hT.n1
  have n2 := hT.n2
  have few := hT.few
  have hout := hid (show w.heap.size ∉ dkS p bb dv from fun q => Nat.lt_irrefl _ (dkS_lt hT.dk _ q).2)
  clear hT bw
  have cv0 : (w.alloc (.cells #[.int .i64 2, .int .i64 k, .slice ba bl bc, .slice ka ks.length kc] 34 (0, 0))).cell? ⟨w.heap.size, 0, none⟩ = some (.int .i64 2) := by rw [Kv.out.cell]; rfl
  have cv1 : (w.alloc (.cells #[.int .i64 2, .int .i64 k, .slice ba bl bc, .slice ka ks.length kc] 34 (0, 0))).cell? ⟨w.heap.size, 1, none⟩ = some (.int .i64 k) := by rw [Kv.out.cell]; rfl
  have cv2 : (w.alloc (.cells #[.int .i64 2, .int .i64 k, .slice ba bl bc, .slice ka ks.length kc] 34 (0, 0))).cell? ⟨w.heap.size, 2, none⟩ = some (.slice ba bl bc) := by rw [Kv.out.cell]; rfl
  have cv3 : (w.alloc (.cells #[.int .i64 2, .int .i64 k, .slice ba bl bc, .slice ka ks.length kc] 34 (0, 0))).cell? ⟨w.heap.size, 3, none⟩ = some (.slice ka ks.length kc) := by rw [Kv.out.cell]; rfl
  go_enter Try.func13, Try.ntmps13
  go_wp2_with fail
  refine (dsync_any _ _ p bb z n c _ σ _ HT.out.dk HT.out.ok (by omega) hon).mono ?_
  rintro e w1 ⟨rfl, b1, d1⟩
  obtain ⟨hB1, hR1⟩ := HT.out.first b1 (dkS_nil)
  have HB1 := hid hB1
  have HR1 := hid hR1
  have HD1 := hid d1
  have K1 := hid (b1.blk Kv.out hout.out)
  have e1 : w1.cell? ⟨w.heap.size, 1, none⟩ = some (.int .i64 k) := by rw [K1.out.cell]; rfl
  have e2 : w1.cell? ⟨w.heap.size, 2, none⟩ = some (.slice ba bl bc) := by rw [K1.out.cell]; rfl
  have e3 : w1.cell? ⟨w.heap.size, 3, none⟩ = some (.slice ka ks.length kc) := by rw [K1.out.cell]; rfl
  clear b1 d1 hB1 hR1
  go_wp2_with fail
  refine (rsync_any _ _ r z n c ov av wv σ _ HR1.out HT.out.ok (by omega) z2 n1 hon).mono ?_
  rintro e w2 ⟨rfl, b2, r2⟩
  have HZ := hid (Two.second HB1.out HD1.out HR1.out b2 (rfS_nil) r2 (HT.out.ok.sy.up) z1 z2 n1 n2 (by omega) : Two _ _ _ _ _ _ _ (c + 1) _ _ _ _ _)
  clear b2 r2
  go_wp2_with fail
  go_returns
  exact ⟨by first | rfl | simp, _, _, _, _, HZ.out⟩
set_option maxHeartbeats 4000000 in
set_option maxRecDepth 100000 in
theorem step_sync_off (W w : World) (r p bb z n c : Nat) (dv ov av wv : Value) (σ : PS) (hT : Two W w r p bb z n c dv ov av wv σ) (k : Int) (ba ka : Option Addr) (bl bc kc : Nat) (ks img : List Int) (hon : σ.on = false) (hc : c < 800) :
    Calls Try.prog 13 #[.pointer (some ⟨p, 0, none⟩), .pointer (some ⟨r, 0, none⟩), .agg #[.int .i64 2, .int .i64 k, .slice ba bl bc, .slice ka ks.length kc], .string (strOfNums img)] w fun e w' => e = .returned (.tuple #[.string (strOfNums img), .bool true]) ∧ ∃ v2 av2 wv2 τ, Two W w' r p bb z n (c + 1) v2 ov av2 wv2 τ := by
  have Kv := hid (Blk.new (w := w) (n := w.heap.size) rfl #[.int .i64 2, .int .i64 k, .slice ba bl bc, .slice ka ks.length kc] 34)
  have bw := (Below.refl w.heap.size w).alloc (Nat.le_refl _) (.cells #[.int .i64 2, .int .i64 k, .slice ba bl bc, .slice ka ks.length kc] 34 (0, 0))
  have HT := hid (hT.on bw)
  have z1 := hT.z1
  have z2 := hT.z2
  have n1 := hT.n1
  have n2 := hT.n2
  have few := hT.few
  have hout := hid (show w.heap.size ∉ dkS p bb dv from fun q => Nat.lt_irrefl _ (dkS_lt hT.dk _ q).2)
  clear hT bw
  have cv0 : (w.alloc (.cells #[.int .i64 2, .int .i64 k, .slice ba bl bc, .slice ka ks.length kc] 34 (0, 0))).cell? ⟨w.heap.size, 0, none⟩ = some (.int .i64 2) := by rw [Kv.out.cell]; rfl
  have cv1 : (w.alloc (.cells #[.int .i64 2, .int .i64 k, .slice ba bl bc, .slice ka ks.length kc] 34 (0, 0))).cell? ⟨w.heap.size, 1, none⟩ = some (.int .i64 k) := by rw [Kv.out.cell]; rfl
  have cv2 : (w.alloc (.cells #[.int .i64 2, .int .i64 k, .slice ba bl bc, .slice ka ks.length kc] 34 (0, 0))).cell? ⟨w.heap.size, 2, none⟩ = some (.slice ba bl bc) := by rw [Kv.out.cell]; rfl
  have cv3 : (w.alloc (.cells #[.int .i64 2, .int .i64 k, .slice ba bl bc, .slice ka ks.length kc] 34 (0, 0))).cell? ⟨w.heap.size, 3, none⟩ = some (.slice ka ks.length kc) := by rw [Kv.out.cell]; rfl
  go_enter Try.func13, Try.ntmps13
  go_wp2_with fail
  obtain ⟨set, af, kv, d1, -⟩ := HT.out.dk.ex
  rw [hon] at d1
  refine (sync_off _ p bb z n _ _ set af kv d1).mono ?_
  rintro e w1 ⟨rfl, b1⟩
  have HT1 := hid (HT.out.on b1)
  clear b1 d1
  go_wp2_with fail
  obtain ⟨left, rk, r1, -⟩ := HT1.out.rf.ex
  rw [hon] at r1
  refine (refsync_off _ _ r z ov av wv _ _ left rk r1).mono ?_
  rintro e w2 ⟨rfl, b2⟩
  have HT2 := hid (HT1.out.on b2)
  clear b2 r1
  go_wp2_with fail
  go_returns
  have h := HT2.out
  exact ⟨by first | rfl | simp, dv, av, wv, σ, h.below, h.dk, h.rf, h.ok.up, z1, z2, n1, n2, by omega⟩
set_option maxHeartbeats 4000000 in
set_option maxRecDepth 100000 in
theorem step_fail (W w : World) (r p bb z n c : Nat) (dv ov av wv : Value) (σ : PS) (hT : Two W w r p bb z n c dv ov av wv σ) (k : Int) (ba ka : Option Addr) (bl bc kc : Nat) (ks img : List Int) (hc : c < 800) (hK : IntsAt W [] ka ks) (hl : ks.length ≤ 1000) (hn : ka = none → ks = [] ∧ kc = 0) (hw : ∀ k ∈ ks, -9223372036854775808 ≤ k ∧ k ≤ 9223372036854775807) (hk2 : k < 9223372036854775808) :
    Calls Try.prog 13 #[.pointer (some ⟨p, 0, none⟩), .pointer (some ⟨r, 0, none⟩), .agg #[.int .i64 3, .int .i64 k, .slice ba bl bc, .slice ka ks.length kc], .string (strOfNums img)] w fun e w' => e = .returned (.tuple #[.string (strOfNums img), .bool true]) ∧ ∃ v2 av2 wv2 τ, Two W w' r p bb z n (c + 1) v2 ov av2 wv2 τ := by
  have Kv := hid (Blk.new (w := w) (n := w.heap.size) rfl #[.int .i64 3, .int .i64 k, .slice ba bl bc, .slice ka ks.length kc] 34)
  have bw := (Below.refl w.heap.size w).alloc (Nat.le_refl _) (.cells #[.int .i64 3, .int .i64 k, .slice ba bl bc, .slice ka ks.length kc] 34 (0, 0))
  have HT := hid (hT.on bw)
  have z1 := hT.z1
  have z2 := hT.z2
  have n1 := hT.n1
  have n2 := hT.n2
  have few := hT.few
  have hout := hid (show w.heap.size ∉ dkS p bb dv from fun q => Nat.lt_irrefl _ (dkS_lt hT.dk _ q).2)
  clear hT bw
  have cv0 : (w.alloc (.cells #[.int .i64 3, .int .i64 k, .slice ba bl bc, .slice ka ks.length kc] 34 (0, 0))).cell? ⟨w.heap.size, 0, none⟩ = some (.int .i64 3) := by rw [Kv.out.cell]; rfl
  have cv1 : (w.alloc (.cells #[.int .i64 3, .int .i64 k, .slice ba bl bc, .slice ka ks.length kc] 34 (0, 0))).cell? ⟨w.heap.size, 1, none⟩ = some (.int .i64 k) := by rw [Kv.out.cell]; rfl
  have cv2 : (w.alloc (.cells #[.int .i64 3, .int .i64 k, .slice ba bl bc, .slice ka ks.length kc] 34 (0, 0))).cell? ⟨w.heap.size, 2, none⟩ = some (.slice ba bl bc) := by rw [Kv.out.cell]; rfl
  have cv3 : (w.alloc (.cells #[.int .i64 3, .int .i64 k, .slice ba bl bc, .slice ka ks.length kc] 34 (0, 0))).cell? ⟨w.heap.size, 3, none⟩ = some (.slice ka ks.length kc) := by rw [Kv.out.cell]; rfl
  go_enter Try.func13, Try.ntmps13
  go_wp2_with fail
  refine (dfail_any _ _ p bb z n _ σ _ HT.out.dk (fun q hq => (rfS_lt2 HT.out.rf q hq).2) k hk2 ka kc ks (hK.in_base HT.out.below (fun q hq => by
      rcases List.mem_append.1 hq with h | h
      · exact (dkS_lt HT.out.dk q h).1
      · exact (rfS_lt2 HT.out.rf q h).1)) hl hn hw).mono ?_
  rintro e w1 ⟨rfl, b1, d1⟩
  obtain ⟨hB1, hR1⟩ := HT.out.first b1 (fun b hb => .inl hb)
  have HB1 := hid hB1
  have HR1 := hid hR1
  have HD1 := hid d1
  have K1 := hid (b1.blk Kv.out hout.out)
  have e1 : w1.cell? ⟨w.heap.size, 1, none⟩ = some (.int .i64 k) := by rw [K1.out.cell]; rfl
  have e2 : w1.cell? ⟨w.heap.size, 2, none⟩ = some (.slice ba bl bc) := by rw [K1.out.cell]; rfl
  have e3 : w1.cell? ⟨w.heap.size, 3, none⟩ = some (.slice ka ks.length kc) := by rw [K1.out.cell]; rfl
  clear b1 d1 hB1 hR1
  go_wp2_with fail
  refine (rfail_any _ _ r z ov av wv σ _ HR1.out k hk2 ka kc ks (hK.in_base HB1.out (fun q hq => by
      rcases List.mem_append.1 hq with h | h
      · exact (rfS_lt2 HR1.out q h).1
      · exact (dkS_lt HD1.out q h).1))).mono ?_
  rintro e w2 ⟨rfl, b2, r2⟩
  have HZ := hid (Two.second HB1.out HD1.out HR1.out b2 (fun b hb => .inl hb) r2 ((HT.out.ok.fa k ks).up) z1 z2 n1 n2 (by omega) : Two _ _ _ _ _ _ _ (c + 1) _ _ _ _ _)
  clear b2 r2
  go_wp2_with fail
  go_returns
  exact ⟨by first | rfl | simp, _, _, _, _, HZ.out⟩
set_option maxHeartbeats 4000000 in
set_option maxRecDepth 100000 in
theorem step_crash (W w : World) (r p bb z n c : Nat) (dv ov av wv : Value) (σ : PS) (hT : Two W w r p bb z n c dv ov av wv σ) (k : Int) (ba ka : Option Addr) (bl bc kc : Nat) (ks img : List Int) (hc : c < 800) (hK : IntsAt W [] ka ks) (hw : ∀ k ∈ ks, -9223372036854775808 ≤ k ∧ k ≤ 9223372036854775807) :
    Calls Try.prog 13 #[.pointer (some ⟨p, 0, none⟩), .pointer (some ⟨r, 0, none⟩), .agg #[.int .i64 4, .int .i64 k, .slice ba bl bc, .slice ka ks.length kc], .string (strOfNums img)] w fun e w' => e = .returned (.tuple #[.string (strOfNums img), .bool true]) ∧ ∃ v2 av2 wv2 τ, Two W w' r p bb z n (c + 1) v2 ov av2 wv2 τ := by
  have Kv := hid (Blk.new (w := w) (n := w.heap.size) rfl #[.int .i64 4, .int .i64 k, .slice ba bl bc, .slice ka ks.length kc] 34)
  have bw := (Below.refl w.heap.size w).alloc (Nat.le_refl _) (.cells #[.int .i64 4, .int .i64 k, .slice ba bl bc, .slice ka ks.length kc] 34 (0, 0))
  have HT := hid (hT.on bw)
  have z1 := hT.z1
  have z2 := hT.z2
  have n1 := hT.n1
  have n2 := hT.n2
  have few := hT.few
  have hout := hid (show w.heap.size ∉ dkS p bb dv from fun q => Nat.lt_irrefl _ (dkS_lt hT.dk _ q).2)
  clear hT bw
  have cv0 : (w.alloc (.cells #[.int .i64 4, .int .i64 k, .slice ba bl bc, .slice ka ks.length kc] 34 (0, 0))).cell? ⟨w.heap.size, 0, none⟩ = some (.int .i64 4) := by rw [Kv.out.cell]; rfl
  have cv1 : (w.alloc (.cells #[.int .i64 4, .int .i64 k, .slice ba bl bc, .slice ka ks.length kc] 34 (0, 0))).cell? ⟨w.heap.size, 1, none⟩ = some (.int .i64 k) := by rw [Kv.out.cell]; rfl
  have cv2 : (w.alloc (.cells #[.int .i64 4, .int .i64 k, .slice ba bl bc, .slice ka ks.length kc] 34 (0, 0))).cell? ⟨w.heap.size, 2, none⟩ = some (.slice ba bl bc) := by rw [Kv.out.cell]; rfl
  have cv3 : (w.alloc (.cells #[.int .i64 4, .int .i64 k, .slice ba bl bc, .slice ka ks.length kc] 34 (0, 0))).cell? ⟨w.heap.size, 3, none⟩ = some (.slice ka ks.length kc) := by rw [Kv.out.cell]; rfl
  go_enter Try.func13, Try.ntmps13
  go_wp2_with fail
  refine (dcrash_any _ _ p bb z n c _ σ _ HT.out.dk HT.out.ok (by omega) ka kc ks (hK.in_base HT.out.below (fun q hq => (dkS_lt HT.out.dk q (dkS_two q hq)).1)) hw).mono ?_
  rintro e w1 ⟨rfl, b1, d1⟩
  obtain ⟨hB1, hR1⟩ := HT.out.first b1 (dkS_nil)
  have HB1 := hid hB1
  have HR1 := hid hR1
  have HD1 := hid d1
  have K1 := hid (b1.blk Kv.out hout.out)
  have e1 : w1.cell? ⟨w.heap.size, 1, none⟩ = some (.int .i64 k) := by rw [K1.out.cell]; rfl
  have e2 : w1.cell? ⟨w.heap.size, 2, none⟩ = some (.slice ba bl bc) := by rw [K1.out.cell]; rfl
  have e3 : w1.cell? ⟨w.heap.size, 3, none⟩ = some (.slice ka ks.length kc) := by rw [K1.out.cell]; rfl
  clear b1 d1 hB1 hR1
  go_wp2_with fail
  refine (rcrash_any _ _ r z n c ov av wv σ _ HR1.out HT.out.ok (by omega) z2 n1 ka kc ks (hK.in_base HB1.out (fun q hq => (rfS_lt2 HR1.out q hq).1))).mono ?_
  rintro e w2 ⟨rfl, b2, av2, wv2, r2, hs2⟩
  have HZ := hid (Two.second HB1.out HD1.out HR1.out b2 (hs2) r2 ((HT.out.ok.cr ks).up) z1 z2 n1 n2 (by omega) : Two _ _ _ _ _ _ _ (c + 1) _ _ _ _ _)
  clear b2 r2
  go_wp2_with fail
  go_returns
  exact ⟨by first | rfl | simp, _, _, _, _, HZ.out⟩
set_option maxHeartbeats 4000000 in
set_option maxRecDepth 100000 in
theorem step_boot (W w : World) (r p bb z n c : Nat) (dv ov av wv : Value) (σ : PS) (hT : Two W w r p bb z n c dv ov av wv σ) (k : Int) (ba ka : Option Addr) (bl bc kc : Nat) (ks img : List Int) (hc : c < 800) :
    Calls Try.prog 13 #[.pointer (some ⟨p, 0, none⟩), .pointer (some ⟨r, 0, none⟩), .agg #[.int .i64 5, .int .i64 k, .slice ba bl bc, .slice ka ks.length kc], .string (strOfNums img)] w fun e w' => e = .returned (.tuple #[.string (strOfNums img), .bool true]) ∧ ∃ v2 av2 wv2 τ, Two W w' r p bb z n (c + 1) v2 ov av2 wv2 τ := by
  have Kv := hid (Blk.new (w := w) (n := w.heap.size) rfl #[.int .i64 5, .int .i64 k, .slice ba bl bc, .slice ka ks.length kc] 34)
  have bw := (Below.refl w.heap.size w).alloc (Nat.le_refl _) (.cells #[.int .i64 5, .int .i64 k, .slice ba bl bc, .slice ka ks.length kc] 34 (0, 0))
  have HT := hid (hT.on bw)
  have z1 := hT.z1
  have z2 := hT.z2
  have n1 := hT.n1
  have n2 := hT.n2
  have few := hT.few
  have hout := hid (show w.heap.size ∉ dkS p bb dv from fun q => Nat.lt_irrefl _ (dkS_lt hT.dk _ q).2)
  clear hT bw
  have cv0 : (w.alloc (.cells #[.int .i64 5, .int .i64 k, .slice ba bl bc, .slice ka ks.length kc] 34 (0, 0))).cell? ⟨w.heap.size, 0, none⟩ = some (.int .i64 5) := by rw [Kv.out.cell]; rfl
  have cv1 : (w.alloc (.cells #[.int .i64 5, .int .i64 k, .slice ba bl bc, .slice ka ks.length kc] 34 (0, 0))).cell? ⟨w.heap.size, 1, none⟩ = some (.int .i64 k) := by rw [Kv.out.cell]; rfl
  have cv2 : (w.alloc (.cells #[.int .i64 5, .int .i64 k, .slice ba bl bc, .slice ka ks.length kc] 34 (0, 0))).cell? ⟨w.heap.size, 2, none⟩ = some (.slice ba bl bc) := by rw [Kv.out.cell]; rfl
  have cv3 : (w.alloc (.cells #[.int .i64 5, .int .i64 k, .slice ba bl bc, .slice ka ks.length kc] 34 (0, 0))).cell? ⟨w.heap.size, 3, none⟩ = some (.slice ka ks.length kc) := by rw [Kv.out.cell]; rfl
  go_enter Try.func13, Try.ntmps13
  go_wp2_with fail
  refine (dboot_any _ _ p bb z n _ σ _ HT.out.dk).mono ?_
  rintro e w1 ⟨rfl, b1, d1⟩
  obtain ⟨hB1, hR1⟩ := HT.out.first b1 (fun b hb => .inl hb)
  have HB1 := hid hB1
  have HR1 := hid hR1
  have HD1 := hid d1
  have K1 := hid (b1.blk Kv.out hout.out)
  have e1 : w1.cell? ⟨w.heap.size, 1, none⟩ = some (.int .i64 k) := by rw [K1.out.cell]; rfl
  have e2 : w1.cell? ⟨w.heap.size, 2, none⟩ = some (.slice ba bl bc) := by rw [K1.out.cell]; rfl
  have e3 : w1.cell? ⟨w.heap.size, 3, none⟩ = some (.slice ka ks.length kc) := by rw [K1.out.cell]; rfl
  clear b1 d1 hB1 hR1
  go_wp2_with fail
  refine (rboot_any _ _ r z ov av wv σ _ HR1.out).mono ?_
  rintro e w2 ⟨rfl, b2, r2⟩
  have HZ := hid (Two.second HB1.out HD1.out HR1.out b2 (fun b hb => .inl hb) r2 (HT.out.ok.bo.up) z1 z2 n1 n2 (by omega) : Two _ _ _ _ _ _ _ (c + 1) _ _ _ _ _)
  clear b2 r2
  go_wp2_with fail
  go_returns
  exact ⟨by first | rfl | simp, _, _, _, _, HZ.out⟩
set_option maxHeartbeats 4000000 in
set_option maxRecDepth 100000 in
theorem step_none (W w : World) (r p bb z n c : Nat) (dv ov av wv : Value) (σ : PS) (hT : Two W w r p bb z n c dv ov av wv σ) (k : Int) (ba ka : Option Addr) (bl bc kc : Nat) (ks img : List Int) (y : Int) (hy : y < 0 ∨ 8 < y) (hc : c < 800) :
    Calls Try.prog 13 #[.pointer (some ⟨p, 0, none⟩), .pointer (some ⟨r, 0, none⟩), .agg #[.int .i64 y, .int .i64 k, .slice ba bl bc, .slice ka ks.length kc], .string (strOfNums img)] w fun e w' => e = .returned (.tuple #[.string (strOfNums img), .bool true]) ∧ ∃ v2 av2 wv2 τ, Two W w' r p bb z n (c + 1) v2 ov av2 wv2 τ := by
  have Kv := hid (Blk.new (w := w) (n := w.heap.size) rfl #[.int .i64 y, .int .i64 k, .slice ba bl bc, .slice ka ks.length kc] 34)
  have bw := (Below.refl w.heap.size w).alloc (Nat.le_refl _) (.cells #[.int .i64 y, .int .i64 k, .slice ba bl bc, .slice ka ks.length kc] 34 (0, 0))
  have HT := hid (hT.on bw)
  have z1 := hT.z1
  have z2 := hT.z2
  have n1 := hT.n1
  have n2 := hT.n2
  have few := hT.few
  have hout := hid (show w.heap.size ∉ dkS p bb dv from fun q => Nat.lt_irrefl _ (dkS_lt hT.dk _ q).2)
  clear hT bw
  have hy0 := hid (show y ≠ 0 ∧ y ≠ 1 ∧ y ≠ 2 ∧ y ≠ 3 ∧ y ≠ 4 ∧ y ≠ 5 ∧ y ≠ 6 ∧ y ≠ 7 ∧ y ≠ 8 by omega)
  obtain ⟨y0, y1, y2, y3, y4, y5, y6, y7, y8⟩ := hy0.out
  have cv0 : (w.alloc (.cells #[.int .i64 y, .int .i64 k, .slice ba bl bc, .slice ka ks.length kc] 34 (0, 0))).cell? ⟨w.heap.size, 0, none⟩ = some (.int .i64 y) := by rw [Kv.out.cell]; rfl
  have cv1 : (w.alloc (.cells #[.int .i64 y, .int .i64 k, .slice ba bl bc, .slice ka ks.length kc] 34 (0, 0))).cell? ⟨w.heap.size, 1, none⟩ = some (.int .i64 k) := by rw [Kv.out.cell]; rfl
  have cv2 : (w.alloc (.cells #[.int .i64 y, .int .i64 k, .slice ba bl bc, .slice ka ks.length kc] 34 (0, 0))).cell? ⟨w.heap.size, 2, none⟩ = some (.slice ba bl bc) := by rw [Kv.out.cell]; rfl
  have cv3 : (w.alloc (.cells #[.int .i64 y, .int .i64 k, .slice ba bl bc, .slice ka ks.length kc] 34 (0, 0))).cell? ⟨w.heap.size, 3, none⟩ = some (.slice ka ks.length kc) := by rw [Kv.out.cell]; rfl
  go_enter Try.func13, Try.ntmps13
  go_wp2_with fail
  go_returns
  have h := HT.out
  exact ⟨by first | rfl | simp, dv, av, wv, σ, h.below, h.dk, h.rf, h.ok.up, z1, z2, n1, n2, by omega⟩
end Go.Proofs.Ytmpgnpkodapidaa

namespace Go.Proofs.Ytmpgnpkodapidaa
open Go.ChangeShapes Go.WideShapes Go.ChangeAt Go.RowKit

set_option maxHeartbeats 4000000 in
set_option maxRecDepth 100000 in
theorem step_read_off (W w : World) (r p bb z n c : Nat) (dv ov av wv : Value) (σ : PS) (hT : Two W w r p bb z n c dv ov av wv σ) (k : Int) (ba ka : Option Addr) (bl bc kc : Nat) (ks img : List Int) (hon : σ.on = false) (hc : c < 800) :
    Calls Try.prog 13 #[.pointer (some ⟨p, 0, none⟩), .pointer (some ⟨r, 0, none⟩), .agg #[.int .i64 1, .int .i64 k, .slice ba bl bc, .slice ka ks.length kc], .string (strOfNums img)] w fun e w' => e = .returned (.tuple #[.string (strOfNums img), .bool true]) ∧ ∃ v2 av2 wv2 τ, Two W w' r p bb z n (c + 1) v2 ov av2 wv2 τ := by
  have Kv := hid (Blk.new (w := w) (n := w.heap.size) rfl #[.int .i64 1, .int .i64 k, .slice ba bl bc, .slice ka ks.length kc] 34)
  have bw := (Below.refl w.heap.size w).alloc (Nat.le_refl _) (.cells #[.int .i64 1, .int .i64 k, .slice ba bl bc, .slice ka ks.length kc] 34 (0, 0))
  have HT := hid (hT.on bw)
  have z1 := hT.z1
  have z2 := hT.z2
  have n1 := hT.n1
  have n2 := hT.n2
  have few := hT.few
  have hout := hid (show w.heap.size ∉ dkS p bb dv from fun q => Nat.lt_irrefl _ (dkS_lt hT.dk _ q).2)
  clear hT bw
  have cv0 : (w.alloc (.cells #[.int .i64 1, .int .i64 k, .slice ba bl bc, .slice ka ks.length kc] 34 (0, 0))).cell? ⟨w.heap.size, 0, none⟩ = some (.int .i64 1) := by rw [Kv.out.cell]; rfl
  have cv1 : (w.alloc (.cells #[.int .i64 1, .int .i64 k, .slice ba bl bc, .slice ka ks.length kc] 34 (0, 0))).cell? ⟨w.heap.size, 1, none⟩ = some (.int .i64 k) := by rw [Kv.out.cell]; rfl
  have cv2 : (w.alloc (.cells #[.int .i64 1, .int .i64 k, .slice ba bl bc, .slice ka ks.length kc] 34 (0, 0))).cell? ⟨w.heap.size, 2, none⟩ = some (.slice ba bl bc) := by rw [Kv.out.cell]; rfl
  have cv3 : (w.alloc (.cells #[.int .i64 1, .int .i64 k, .slice ba bl bc, .slice ka ks.length kc] 34 (0, 0))).cell? ⟨w.heap.size, 3, none⟩ = some (.slice ka ks.length kc) := by rw [Kv.out.cell]; rfl
  go_enter Try.func13, Try.ntmps13
  go_wp2_with fail
  obtain ⟨set, af, kv, d1, -⟩ := HT.out.dk.ex
  rw [hon] at d1
  refine (read_off _ p bb z n _ _ set af kv d1 k).mono ?_
  rintro e w1 ⟨rfl, b1⟩
  have HT1 := hid (HT.out.on b1)
  have K1 := hid (Kv.out.below b1)
  have e1 : w1.cell? ⟨w.heap.size, 1, none⟩ = some (.int .i64 k) := by rw [K1.out.cell]; rfl
  have T1 := hid (TextAt.nil (w := w1))
  clear b1
  go_wp2_with fail
  obtain ⟨left, rk, r1, -⟩ := HT1.out.rf.ex
  rw [hon] at r1
  refine (refread_off _ _ r z ov av wv _ _ left rk r1 k).mono ?_
  rintro e w2 ⟨rfl, b2⟩
  have HT2 := hid (HT1.out.on b2)
  have T2 := hid (T1.out.below b2)
  have hcv := T2.out.string (src := 31) (dst := 9) Try.underlying31 Try.underlying5 Try.underlying9
  clear b2
  go_wp2_with fail
  go_returns
  have h := HT2.out
  exact ⟨by first | rfl | simp, dv, av, wv, σ, h.below, h.dk, h.rf, h.ok.up, z1, z2, n1, n2, by omega⟩
set_option maxHeartbeats 4000000 in
set_option maxRecDepth 100000 in
theorem step_read_bad (W w : World) (r p bb z n c : Nat) (dv ov av wv : Value) (σ : PS) (hT : Two W w r p bb z n c dv ov av wv σ) (k : Int) (ba ka : Option Addr) (bl bc kc : Nat) (ks img : List Int) (hon : σ.on = true) (hk : k < 0 ∨ (n : Int) ≤ k) (hc : c < 800) :
    Calls Try.prog 13 #[.pointer (some ⟨p, 0, none⟩), .pointer (some ⟨r, 0, none⟩), .agg #[.int .i64 1, .int .i64 k, .slice ba bl bc, .slice ka ks.length kc], .string (strOfNums img)] w fun e w' => e = .returned (.tuple #[.string (strOfNums img), .bool true]) ∧ ∃ v2 av2 wv2 τ, Two W w' r p bb z n (c + 1) v2 ov av2 wv2 τ := by
  have Kv := hid (Blk.new (w := w) (n := w.heap.size) rfl #[.int .i64 1, .int .i64 k, .slice ba bl bc, .slice ka ks.length kc] 34)
  have bw := (Below.refl w.heap.size w).alloc (Nat.le_refl _) (.cells #[.int .i64 1, .int .i64 k, .slice ba bl bc, .slice ka ks.length kc] 34 (0, 0))
  have HT := hid (hT.on bw)
  have z1 := hT.z1
  have z2 := hT.z2
  have n1 := hT.n1
  have n2 := hT.n2
  have few := hT.few
  have hout := hid (show w.heap.size ∉ dkS p bb dv from fun q => Nat.lt_irrefl _ (dkS_lt hT.dk _ q).2)
  clear hT bw
  have cv0 : (w.alloc (.cells #[.int .i64 1, .int .i64 k, .slice ba bl bc, .slice ka ks.length kc] 34 (0, 0))).cell? ⟨w.heap.size, 0, none⟩ = some (.int .i64 1) := by rw [Kv.out.cell]; rfl
  have cv1 : (w.alloc (.cells #[.int .i64 1, .int .i64 k, .slice ba bl bc, .slice ka ks.length kc] 34 (0, 0))).cell? ⟨w.heap.size, 1, none⟩ = some (.int .i64 k) := by rw [Kv.out.cell]; rfl
  have cv2 : (w.alloc (.cells #[.int .i64 1, .int .i64 k, .slice ba bl bc, .slice ka ks.length kc] 34 (0, 0))).cell? ⟨w.heap.size, 2, none⟩ = some (.slice ba bl bc) := by rw [Kv.out.cell]; rfl
  have cv3 : (w.alloc (.cells #[.int .i64 1, .int .i64 k, .slice ba bl bc, .slice ka ks.length kc] 34 (0, 0))).cell? ⟨w.heap.size, 3, none⟩ = some (.slice ka ks.length kc) := by rw [Kv.out.cell]; rfl
  go_enter Try.func13, Try.ntmps13
  go_wp2_with fail
  obtain ⟨set, af, kv, d1, -⟩ := HT.out.dk.ex
  rw [hon] at d1
  refine (read_bad _ p bb z n _ _ set af kv d1 k hk).mono ?_
  rintro e w1 ⟨rfl, b1⟩
  have HT1 := hid (HT.out.on b1)
  have K1 := hid (Kv.out.below b1)
  have e1 : w1.cell? ⟨w.heap.size, 1, none⟩ = some (.int .i64 k) := by rw [K1.out.cell]; rfl
  have T1 := hid (TextAt.nil (w := w1))
  clear b1
  go_wp2_with fail
  obtain ⟨left, rk, r1, -⟩ := HT1.out.rf.ex
  rw [hon] at r1
  refine (refread_bad _ _ r z ov av wv _ _ left rk r1 (by rw [HT.out.ok.len]; omega) k (by rw [HT.out.ok.len]; exact hk)).mono ?_
  rintro e w2 ⟨rfl, b2⟩
  have HT2 := hid (HT1.out.on b2)
  have T2 := hid (T1.out.below b2)
  have hcv := T2.out.string (src := 31) (dst := 9) Try.underlying31 Try.underlying5 Try.underlying9
  clear b2
  go_wp2_with fail
  go_returns
  have h := HT2.out
  exact ⟨by first | rfl | simp, dv, av, wv, σ, h.below, h.dk, h.rf, h.ok.up, z1, z2, n1, n2, by omega⟩
set_option maxHeartbeats 4000000 in
set_option maxRecDepth 100000 in
theorem step_read_good (W w : World) (r p bb z n c : Nat) (dv ov av wv : Value) (σ : PS) (hT : Two W w r p bb z n c dv ov av wv σ) (ba ka : Option Addr) (bl bc kc k0 : Nat) (ks img : List Int) (hon : σ.on = true) (hkn : k0 < n) (hc : c < 800) :
    Calls Try.prog 13 #[.pointer (some ⟨p, 0, none⟩), .pointer (some ⟨r, 0, none⟩), .agg #[.int .i64 1, .int .i64 k0, .slice ba bl bc, .slice ka ks.length kc], .string (strOfNums img)] w fun e w' => e = .returned (.tuple #[.string (strOfNums img), .bool true]) ∧ ∃ v2 av2 wv2 τ, Two W w' r p bb z n (c + 1) v2 ov av2 wv2 τ := by
  have Kv := hid (Blk.new (w := w) (n := w.heap.size) rfl #[.int .i64 1, .int .i64 k0, .slice ba bl bc, .slice ka ks.length kc] 34)
  have bw := (Below.refl w.heap.size w).alloc (Nat.le_refl _) (.cells #[.int .i64 1, .int .i64 k0, .slice ba bl bc, .slice ka ks.length kc] 34 (0, 0))
  have HT := hid (hT.on bw)
  have z1 := hT.z1
  have z2 := hT.z2
  have n1 := hT.n1
  have n2 := hT.n2
  have few := hT.few
  have hout := hid (show w.heap.size ∉ dkS p bb dv from fun q => Nat.lt_irrefl _ (dkS_lt hT.dk _ q).2)
  clear hT bw
  have cv0 : (w.alloc (.cells #[.int .i64 1, .int .i64 k0, .slice ba bl bc, .slice ka ks.length kc] 34 (0, 0))).cell? ⟨w.heap.size, 0, none⟩ = some (.int .i64 1) := by rw [Kv.out.cell]; rfl
  have cv1 : (w.alloc (.cells #[.int .i64 1, .int .i64 k0, .slice ba bl bc, .slice ka ks.length kc] 34 (0, 0))).cell? ⟨w.heap.size, 1, none⟩ = some (.int .i64 k0) := by rw [Kv.out.cell]; rfl
  have cv2 : (w.alloc (.cells #[.int .i64 1, .int .i64 k0, .slice ba bl bc, .slice ka ks.length kc] 34 (0, 0))).cell? ⟨w.heap.size, 2, none⟩ = some (.slice ba bl bc) := by rw [Kv.out.cell]; rfl
  have cv3 : (w.alloc (.cells #[.int .i64 1, .int .i64 k0, .slice ba bl bc, .slice ka ks.length kc] 34 (0, 0))).cell? ⟨w.heap.size, 3, none⟩ = some (.slice ka ks.length kc) := by rw [Kv.out.cell]; rfl
  go_enter Try.func13, Try.ntmps13
  go_wp2_with fail
  obtain ⟨set, af, kv, d1, d2, -⟩ := HT.out.dk.ex
  rw [hon] at d1
  obtain ⟨wa, wc, hdv, hW⟩ := DkS.wait d1 d2
  rw [hdv] at d1
  refine (read_any _ p bb z n _ set af kv wa wc σ.ws d1 hW HT.out.ok.wai (by have := HT.out.ok.few; omega) k0 hkn).mono ?_
  rintro e w1 ⟨g, rfl, _, b1, t1⟩
  have HT1 := hid (HT.out.on b1)
  have K1 := hid (Kv.out.below b1)
  have e1 : w1.cell? ⟨w.heap.size, 1, none⟩ = some (.int .i64 k0) := by rw [K1.out.cell]; rfl
  have T1 := hid (t1)
  clear b1
  go_wp2_with fail
  obtain ⟨left, rk, r1, -⟩ := HT1.out.rf.ex
  rw [hon] at r1
  have hrr := readR_ok z k0 σ.ws σ.On HT.out.ok.sec (by rw [HT.out.ok.len]; exact hkn) σ.ws.length
  rw [hrr] at T1
  refine (refread_any _ _ r z ov av wv _ _ left rk r1 k0 (by rw [HT.out.ok.len]; exact hkn) (by have := HT.out.ok.few; omega)).mono ?_
  rintro e w2 ⟨rfl, b2⟩
  have HT2 := hid (HT1.out.on b2)
  have T2 := hid (T1.out.below b2)
  have hcv := T2.out.string (src := 31) (dst := 9) Try.underlying31 Try.underlying5 Try.underlying9
  clear b2
  go_wp2_with fail
  go_returns
  have h := HT2.out
  exact ⟨by first | rfl | simp, dv, av, wv, σ, h.below, h.dk, h.rf, h.ok.up, z1, z2, n1, n2, by omega⟩
end Go.Proofs.Ytmpgnpkodapidaa

namespace Go.Proofs.Ytmpgnpkodapidaa
open Go.ChangeShapes Go.WideShapes Go.ChangeAt Go.RowKit

theorem strOfNums_byte (xs : List Int) (j : Nat) (hj : j < xs.length) (hs : ∀ x ∈ xs, 0 ≤ x ∧ x < 256) : (((strOfNums xs).data.toList.getD j 0).toNat : Int) = xs.getD j 0 := by
  have h := hs (xs.getD j 0) (by simp [hj])
  have e : xs.getD j 0 = xs[j] := by simp [hj]
  rw [e] at h ⊢
  simp [strOfNums, hj]
  omega
theorem conv_bytes (w : World) (xs : List Int) (hs : ∀ x ∈ xs, 0 ≤ x ∧ x < 256) (hl : xs.length ≤ 100000) : ∃ c w', (convert 9 31 (.string (strOfNums xs))).run Try.prog w = .ok (.slice (some ⟨w.heap.size, 0, none⟩) xs.length c) w' ∧ Below w.heap.size w w' ∧ TextAt w' (some ⟨w.heap.size, 0, none⟩) xs.length c xs := by
  have h := Go.Lib.run_convert_string_bytes (P := Try.prog) w 9 31 5 (strOfNums xs) Try.underlying9 Try.underlying31 Try.underlying5
  have hz := strOfNums_size xs
  rw [hz] at h
  refine ⟨_, _, h, ⟨rfl, rfl, rfl, by rw [Go.Lib.bytesWorld_size]; omega, fun k hk => Go.Lib.bytesWorld_at_old w _ _ k hk⟩, rfl, grownCap_ge _ _ _ _, by have := grownCap_le_maxLen w xs.length 0 5 (by unfold maxLen; omega); unfold maxLen at this; omega, hs, .inr ⟨w.heap.size, 0, none, rfl, fun j hj => ⟨rfl, by rw [Go.Lib.bytesWorld_size]; omega, ?_⟩⟩⟩
  rw [Nat.zero_add, Go.Lib.bytesWorld_cell w _ _ j (by rw [hz]; exact hj), strOfNums_byte xs j hj hs]
/-- the document's disk goes first -/
theorem Two.ref {W w w' : World} {r p bb z n c : Nat} {dv ov av wv av2 wv2 : Value} {σ : PS} (h : Two W w r p bb z n c dv ov av wv σ) (b : FlowB.ButIn (rfS r ov av wv) w w') (hs : ∀ b ∈ rfS r ov av2 wv2, b ∈ rfS r ov av wv ∨ w.heap.size ≤ b) : Below W.heap.size W w' ∧ DkS w' W.heap.size p bb z n dv σ (rfS r ov av2 wv2) :=
  ⟨below_in h.below b (Nat.le_refl _) (fun q hq => (rfS_lt2 h.rf q hq).1), h.dk.stay h.rf b hs⟩
/-- the program's disk comes second -/
theorem Two.disk {W w w' : World} {r p bb z n c' : Nat} {dv v2 ov av wv : Value} {σ τ : PS} (hB : Below W.heap.size W w) (hD : DkS w W.heap.size p bb z n dv σ (rfS r ov av wv)) (hR : RfS w W.heap.size r z ov av wv τ (dkS p bb dv)) (b : FlowB.ButIn (dkS p bb dv) w w') (hs : ∀ b ∈ dkS p bb v2, b ∈ dkS p bb dv ∨ w.heap.size ≤ b) (hD2 : DkS w' W.heap.size p bb z n v2 τ (rfS r ov av wv)) (hk : τ.Ok n z c') (z1 : 1 ≤ z) (z2 : z ≤ 512) (n1 : 1 ≤ n) (n2 : n ≤ 64) (few : c' ≤ 800) : Two W w' r p bb z n c' v2 ov av wv τ :=
  ⟨below_in hB b (Nat.le_refl _) (fun q hq => (dkS_lt hD q hq).1), hD2, hR.stay hD b hs, hk, z1, z2, n1, n2, few⟩
set_option maxHeartbeats 4000000 in
set_option maxRecDepth 100000 in
theorem step_back_no (W w : World) (r p bb z n c : Nat) (dv ov av wv : Value) (σ : PS) (hT : Two W w r p bb z n c dv ov av wv σ) (k : Int) (ba ka : Option Addr) (bl bc kc : Nat) (ks img : List Int) (M : Nat) (hM : n * z = M) (hc : c < 800) (hne : ¬ img.length = M) :
    Calls Try.prog 13 #[.pointer (some ⟨p, 0, none⟩), .pointer (some ⟨r, 0, none⟩), .agg #[.int .i64 7, .int .i64 k, .slice ba bl bc, .slice ka ks.length kc], .string (strOfNums img)] w fun e w' => e = .returned (.tuple #[.string (strOfNums img), .bool true]) ∧ ∃ v2 av2 wv2 τ, Two W w' r p bb z n (c + 1) v2 ov av2 wv2 τ := by
  have Kv := hid (Blk.new (w := w) (n := w.heap.size) rfl #[.int .i64 7, .int .i64 k, .slice ba bl bc, .slice ka ks.length kc] 34)
  have bw := (Below.refl w.heap.size w).alloc (Nat.le_refl _) (.cells #[.int .i64 7, .int .i64 k, .slice ba bl bc, .slice ka ks.length kc] 34 (0, 0))
  have HT := hid (hT.on bw)
  have z1 := hT.z1
  have z2 := hT.z2
  have n1 := hT.n1
  have n2 := hT.n2
  have few := hT.few
  have hout := hid (show w.heap.size ∉ dkS p bb dv from fun q => Nat.lt_irrefl _ (dkS_lt hT.dk _ q).2)
  clear hT bw
  have cv0 : (w.alloc (.cells #[.int .i64 7, .int .i64 k, .slice ba bl bc, .slice ka ks.length kc] 34 (0, 0))).cell? ⟨w.heap.size, 0, none⟩ = some (.int .i64 7) := by rw [Kv.out.cell]; rfl
  have cv1 : (w.alloc (.cells #[.int .i64 7, .int .i64 k, .slice ba bl bc, .slice ka ks.length kc] 34 (0, 0))).cell? ⟨w.heap.size, 1, none⟩ = some (.int .i64 k) := by rw [Kv.out.cell]; rfl
  have cv2 : (w.alloc (.cells #[.int .i64 7, .int .i64 k, .slice ba bl bc, .slice ka ks.length kc] 34 (0, 0))).cell? ⟨w.heap.size, 2, none⟩ = some (.slice ba bl bc) := by rw [Kv.out.cell]; rfl
  have cv3 : (w.alloc (.cells #[.int .i64 7, .int .i64 k, .slice ba bl bc, .slice ka ks.length kc] 34 (0, 0))).cell? ⟨w.heap.size, 3, none⟩ = some (.slice ka ks.length kc) := by rw [Kv.out.cell]; rfl
  have hMI : (n : Int) * (z : Int) = (M : Int) := by rw [← hM]; simp
  have hM3 : M ≤ 64 * 512 := by rw [← hM]; exact Nat.mul_le_mul n2 z2
  have hsz := strOfNums_size img
  have hne1 : ¬ ((img.length : Int) = (M : Int)) := by omega
  have hne2 : ((img.length : Int) == (M : Int)) = false := by simp; omega
  go_enter Try.func13, Try.ntmps13
  go_wp2_with fail
  obtain ⟨left, rk, r1, -⟩ := HT.out.rf.ex
  obtain ⟨oa, oc, hov⟩ := owns_slice r1.on
  rw [HT.out.ok.len] at hov
  have KR := hid r1.kr
  rw [hov] at KR
  clear r1
  refine wp_region_flow 13 (List.range 13) [] [] (by kernel_rfl) (by kernel_rfl) ?_
  apply Exists.intro
  refine ⟨fun w0 hb0 hF0 => ?_, ?_⟩
  · skip
    have y0 : ∀ w', (∃ x : Ext w0, w' = x.at_) → w'.cell? ⟨r, 0, none⟩ = some (.int .i64 (z : Int)) := fun w' ⟨x, hx⟩ => by rw [hx]; exact by rw [((KR.out.below hb0).below x.same).cell]; rfl
    have y1 : ∀ w', (∃ x : Ext w0, w' = x.at_) → w'.cell? ⟨r, 1, none⟩ = some (.slice oa n oc) := fun w' ⟨x, hx⟩ => by rw [hx]; exact by rw [((KR.out.below hb0).below x.same).cell]; rfl
    simp only [pick, List.range, List.range.loop, List.getElem?_toArray, List.getElem?_cons_succ, List.getElem?_cons_zero, Option.toList_some, List.cons_append, List.nil_append]
    repeat (first | (go_big_quiet_want; refine quiet_load_one 3 _ rfl ⟨r, 0, none⟩ rfl _ y0 _ Try.underlying3 rfl ?_; go_big_quiet_on; simp only [Act.put, List.setIfInBounds_toArray, List.set_cons_zero, List.set_cons_succ]) | (go_big_quiet_want; refine quiet_load_one 63 _ rfl ⟨r, 1, none⟩ rfl _ y1 _ Try.underlying63 rfl ?_; go_big_quiet_on; simp only [Act.put, List.setIfInBounds_toArray, List.set_cons_zero, List.set_cons_succ]) | go_big_quiet_step (fail))
    exact wpQuiet_nil rfl
  refine AlChk.nil ?_
  refine Walk.fin fun w1 hw1 _ _ => ?_
  simp only [List.drop_succ_cons, List.drop_zero]
  have HT1 := hid (HT.out.on hw1)
  have K1 := hid (Kv.out.below hw1)
  have f2 : w1.cell? ⟨w.heap.size, 2, none⟩ = some (.slice ba bl bc) := by rw [K1.out.cell]; rfl
  clear hw1
  go_wp2_with fail
  go_returns
  have h := HT1.out
  exact ⟨by first | rfl | simp, dv, av, wv, σ, h.below, h.dk, h.rf, h.ok.up, z1, z2, n1, n2, by omega⟩
set_option maxHeartbeats 4000000 in
set_option maxRecDepth 100000 in
theorem step_back (W w : World) (r p bb z n c : Nat) (dv ov av wv : Value) (σ : PS) (hT : Two W w r p bb z n c dv ov av wv σ) (k : Int) (ba ka : Option Addr) (bl bc kc : Nat) (ks img : List Int) (hM : n * z = img.length) (hc : c < 800) (hs : ∀ x ∈ img, 0 ≤ x ∧ x < 256) :
    Calls Try.prog 13 #[.pointer (some ⟨p, 0, none⟩), .pointer (some ⟨r, 0, none⟩), .agg #[.int .i64 7, .int .i64 k, .slice ba bl bc, .slice ka ks.length kc], .string (strOfNums img)] w fun e w' => e = .returned (.tuple #[.string (strOfNums img), .bool true]) ∧ ∃ v2 av2 wv2 τ, Two W w' r p bb z n (c + 1) v2 ov av2 wv2 τ := by
  have Kv := hid (Blk.new (w := w) (n := w.heap.size) rfl #[.int .i64 7, .int .i64 k, .slice ba bl bc, .slice ka ks.length kc] 34)
  have bw := (Below.refl w.heap.size w).alloc (Nat.le_refl _) (.cells #[.int .i64 7, .int .i64 k, .slice ba bl bc, .slice ka ks.length kc] 34 (0, 0))
  have HT := hid (hT.on bw)
  have z1 := hT.z1
  have z2 := hT.z2
  have n1 := hT.n1
  have n2 := hT.n2
  have few := hT.few
  have hout := hid (show w.heap.size ∉ dkS p bb dv from fun q => Nat.lt_irrefl _ (dkS_lt hT.dk _ q).2)
  have hro := hid (show w.heap.size ∉ rfS r ov av wv from fun q => Nat.lt_irrefl _ (rfS_lt2 hT.rf _ q).2)
  clear hT bw
  have cv0 : (w.alloc (.cells #[.int .i64 7, .int .i64 k, .slice ba bl bc, .slice ka ks.length kc] 34 (0, 0))).cell? ⟨w.heap.size, 0, none⟩ = some (.int .i64 7) := by rw [Kv.out.cell]; rfl
  have cv1 : (w.alloc (.cells #[.int .i64 7, .int .i64 k, .slice ba bl bc, .slice ka ks.length kc] 34 (0, 0))).cell? ⟨w.heap.size, 1, none⟩ = some (.int .i64 k) := by rw [Kv.out.cell]; rfl
  have cv2 : (w.alloc (.cells #[.int .i64 7, .int .i64 k, .slice ba bl bc, .slice ka ks.length kc] 34 (0, 0))).cell? ⟨w.heap.size, 2, none⟩ = some (.slice ba bl bc) := by rw [Kv.out.cell]; rfl
  have cv3 : (w.alloc (.cells #[.int .i64 7, .int .i64 k, .slice ba bl bc, .slice ka ks.length kc] 34 (0, 0))).cell? ⟨w.heap.size, 3, none⟩ = some (.slice ka ks.length kc) := by rw [Kv.out.cell]; rfl
  have hMI : (n : Int) * (z : Int) = (img.length : Int) := by rw [← hM]; simp
  have hM3 : img.length ≤ 64 * 512 := by rw [← hM]; exact Nat.mul_le_mul n2 z2
  have hsz := strOfNums_size img
  go_enter Try.func13, Try.ntmps13
  go_wp2_with fail
  obtain ⟨left, rk, r1, -⟩ := HT.out.rf.ex
  obtain ⟨oa, oc, hov⟩ := owns_slice r1.on
  rw [HT.out.ok.len] at hov
  have KR := hid r1.kr
  rw [hov] at KR
  clear r1
  refine wp_region_flow 13 (List.range 13) [] [] (by kernel_rfl) (by kernel_rfl) ?_
  apply Exists.intro
  refine ⟨fun w0 hb0 hF0 => ?_, ?_⟩
  · skip
    have y0 : ∀ w', (∃ x : Ext w0, w' = x.at_) → w'.cell? ⟨r, 0, none⟩ = some (.int .i64 (z : Int)) := fun w' ⟨x, hx⟩ => by rw [hx]; exact by rw [((KR.out.below hb0).below x.same).cell]; rfl
    have y1 : ∀ w', (∃ x : Ext w0, w' = x.at_) → w'.cell? ⟨r, 1, none⟩ = some (.slice oa n oc) := fun w' ⟨x, hx⟩ => by rw [hx]; exact by rw [((KR.out.below hb0).below x.same).cell]; rfl
    simp only [pick, List.range, List.range.loop, List.getElem?_toArray, List.getElem?_cons_succ, List.getElem?_cons_zero, Option.toList_some, List.cons_append, List.nil_append]
    repeat (first | (go_big_quiet_want; refine quiet_load_one 3 _ rfl ⟨r, 0, none⟩ rfl _ y0 _ Try.underlying3 rfl ?_; go_big_quiet_on; simp only [Act.put, List.setIfInBounds_toArray, List.set_cons_zero, List.set_cons_succ]) | (go_big_quiet_want; refine quiet_load_one 63 _ rfl ⟨r, 1, none⟩ rfl _ y1 _ Try.underlying63 rfl ?_; go_big_quiet_on; simp only [Act.put, List.setIfInBounds_toArray, List.set_cons_zero, List.set_cons_succ]) | go_big_quiet_step (fail))
    exact wpQuiet_nil rfl
  refine AlChk.nil ?_
  refine Walk.fin fun w1 hw1 _ _ => ?_
  simp only [List.drop_succ_cons, List.drop_zero]
  have HT1 := hid (HT.out.on hw1)
  have K1 := hid (Kv.out.below hw1)
  have f2 : w1.cell? ⟨w.heap.size, 2, none⟩ = some (.slice ba bl bc) := by rw [K1.out.cell]; rfl
  clear hw1
  go_wp2_with fail
  refine (rrestore_any _ _ r z n c ov av wv σ _ HT1.out.rf HT1.out.ok z2 n1 n2 img (by omega)).mono ?_
  rintro e w2 ⟨rfl, b2, r2⟩
  obtain ⟨hB2, hD2⟩ := HT1.out.ref b2 rfS_nil
  have hsz1 : w.heap.size < w1.heap.size := K1.out.lt
  have K2 := hid (b2.blk K1.out (fun q => hro.out q))
  have g2 : w2.cell? ⟨w.heap.size, 2, none⟩ = some (.slice ba bl bc) := by rw [K2.out.cell]; rfl
  have HB2 := hid hB2
  have HD2 := hid hD2
  have HR2 := hid r2
  clear b2 r2 hB2 hD2
  obtain ⟨cc, w3, hcb, b3, t3⟩ := conv_bytes w2 img hs (by omega)
  have HB3 := hid (Below.on HB2.out b3)
  have HD3 := hid (HD2.out.below b3)
  have HR3 := hid (HR2.out.below b3)
  have T3 := hid t3
  clear b3 t3
  go_wp2_with fail
  refine (drestore_any _ _ p bb z n c _ σ _ HD3.out HT1.out.ok _ cc img img.length (by omega) T3.out).mono ?_
  rintro e w4 ⟨rfl, b4, d4⟩
  have HZ := hid (Two.disk (c' := c + 1) HB3.out HD3.out HR3.out b4 dkS_nil d4 ((HT1.out.ok.re _ (by omega)).up) z1 z2 n1 n2 (by omega))
  clear b4 d4
  go_wp2_with fail
  go_returns
  exact ⟨by first | rfl | simp, _, _, _, _, HZ.out⟩
set_option maxHeartbeats 4000000 in
set_option maxRecDepth 100000 in
theorem step_put_no (W w : World) (r p bb z n c : Nat) (dv ov av wv : Value) (σ : PS) (hT : Two W w r p bb z n c dv ov av wv σ) (k : Int) (ba ka : Option Addr) (bl bc kc : Nat) (ks img : List Int) (M : Nat) (hM : n * z = M) (hc : c < 800) (hne : ¬ bl = M) :
    Calls Try.prog 13 #[.pointer (some ⟨p, 0, none⟩), .pointer (some ⟨r, 0, none⟩), .agg #[.int .i64 8, .int .i64 k, .slice ba bl bc, .slice ka ks.length kc], .string (strOfNums img)] w fun e w' => e = .returned (.tuple #[.string (strOfNums img), .bool true]) ∧ ∃ v2 av2 wv2 τ, Two W w' r p bb z n (c + 1) v2 ov av2 wv2 τ := by
  have Kv := hid (Blk.new (w := w) (n := w.heap.size) rfl #[.int .i64 8, .int .i64 k, .slice ba bl bc, .slice ka ks.length kc] 34)
  have bw := (Below.refl w.heap.size w).alloc (Nat.le_refl _) (.cells #[.int .i64 8, .int .i64 k, .slice ba bl bc, .slice ka ks.length kc] 34 (0, 0))
  have HT := hid (hT.on bw)
  have z1 := hT.z1
  have z2 := hT.z2
  have n1 := hT.n1
  have n2 := hT.n2
  have few := hT.few
  have hout := hid (show w.heap.size ∉ dkS p bb dv from fun q => Nat.lt_irrefl _ (dkS_lt hT.dk _ q).2)
  clear hT bw
  have cv0 : (w.alloc (.cells #[.int .i64 8, .int .i64 k, .slice ba bl bc, .slice ka ks.length kc] 34 (0, 0))).cell? ⟨w.heap.size, 0, none⟩ = some (.int .i64 8) := by rw [Kv.out.cell]; rfl
  have cv1 : (w.alloc (.cells #[.int .i64 8, .int .i64 k, .slice ba bl bc, .slice ka ks.length kc] 34 (0, 0))).cell? ⟨w.heap.size, 1, none⟩ = some (.int .i64 k) := by rw [Kv.out.cell]; rfl
  have cv2 : (w.alloc (.cells #[.int .i64 8, .int .i64 k, .slice ba bl bc, .slice ka ks.length kc] 34 (0, 0))).cell? ⟨w.heap.size, 2, none⟩ = some (.slice ba bl bc) := by rw [Kv.out.cell]; rfl
  have cv3 : (w.alloc (.cells #[.int .i64 8, .int .i64 k, .slice ba bl bc, .slice ka ks.length kc] 34 (0, 0))).cell? ⟨w.heap.size, 3, none⟩ = some (.slice ka ks.length kc) := by rw [Kv.out.cell]; rfl
  have hMI : (n : Int) * (z : Int) = (M : Int) := by rw [← hM]; simp
  have hM3 : M ≤ 64 * 512 := by rw [← hM]; exact Nat.mul_le_mul n2 z2
  have hsz := strOfNums_size img
  have hne1 : ¬ ((bl : Int) = (M : Int)) := by omega
  have hne2 : ((bl : Int) == (M : Int)) = false := by simp; omega
  go_enter Try.func13, Try.ntmps13
  go_wp2_with fail
  obtain ⟨left, rk, r1, -⟩ := HT.out.rf.ex
  obtain ⟨oa, oc, hov⟩ := owns_slice r1.on
  rw [HT.out.ok.len] at hov
  have KR := hid r1.kr
  rw [hov] at KR
  clear r1
  refine wp_region_flow 14 (List.range 14) [] [] (by kernel_rfl) (by kernel_rfl) ?_
  apply Exists.intro
  refine ⟨fun w0 hb0 hF0 => ?_, ?_⟩
  · skip
    have y0 : ∀ w', (∃ x : Ext w0, w' = x.at_) → w'.cell? ⟨r, 0, none⟩ = some (.int .i64 (z : Int)) := fun w' ⟨x, hx⟩ => by rw [hx]; exact by rw [((KR.out.below hb0).below x.same).cell]; rfl
    have y1 : ∀ w', (∃ x : Ext w0, w' = x.at_) → w'.cell? ⟨r, 1, none⟩ = some (.slice oa n oc) := fun w' ⟨x, hx⟩ => by rw [hx]; exact by rw [((KR.out.below hb0).below x.same).cell]; rfl
    have y2 : ∀ w', (∃ x : Ext w0, w' = x.at_) → w'.cell? ⟨w.heap.size, 2, none⟩ = some (.slice ba bl bc) := fun w' ⟨x, hx⟩ => by rw [hx]; exact by rw [((Kv.out.below hb0).below x.same).cell]; rfl
    simp only [pick, List.range, List.range.loop, List.getElem?_toArray, List.getElem?_cons_succ, List.getElem?_cons_zero, Option.toList_some, List.cons_append, List.nil_append]
    repeat (first | (go_big_quiet_want; refine quiet_load_one 3 _ rfl ⟨r, 0, none⟩ rfl _ y0 _ Try.underlying3 rfl ?_; go_big_quiet_on; simp only [Act.put, List.setIfInBounds_toArray, List.set_cons_zero, List.set_cons_succ]) | (go_big_quiet_want; refine quiet_load_one 63 _ rfl ⟨r, 1, none⟩ rfl _ y1 _ Try.underlying63 rfl ?_; go_big_quiet_on; simp only [Act.put, List.setIfInBounds_toArray, List.set_cons_zero, List.set_cons_succ]) | (go_big_quiet_want; refine quiet_load_one 31 _ rfl ⟨w.heap.size, 2, none⟩ rfl _ y2 _ Try.underlying31 rfl ?_; go_big_quiet_on; simp only [Act.put, List.setIfInBounds_toArray, List.set_cons_zero, List.set_cons_succ]) | go_big_quiet_step (fail))
    exact wpQuiet_nil rfl
  refine AlChk.nil ?_
  refine Walk.fin fun w1 hw1 _ _ => ?_
  simp only [List.drop_succ_cons, List.drop_zero]
  have HT1 := hid (HT.out.on hw1)
  have K1 := hid (Kv.out.below hw1)
  have f2 : w1.cell? ⟨w.heap.size, 2, none⟩ = some (.slice ba bl bc) := by rw [K1.out.cell]; rfl
  clear hw1
  go_wp2_with fail
  obtain ⟨set, af, kv, d1, -⟩ := HT1.out.dk.ex
  refine (restore_bad _ p bb z n _ _ _ set af kv d1 ba bl bc (by omega)).mono ?_
  rintro e w2 ⟨rfl, b2⟩
  have HT2 := hid (HT1.out.on b2)
  clear b2 d1
  go_wp2_with fail
  go_returns
  have h := HT2.out
  exact ⟨by first | rfl | simp, dv, av, wv, σ, h.below, h.dk, h.rf, h.ok.up, z1, z2, n1, n2, by omega⟩
set_option maxHeartbeats 4000000 in
set_option maxRecDepth 100000 in
theorem step_put (W w : World) (r p bb z n c : Nat) (dv ov av wv : Value) (σ : PS) (hT : Two W w r p bb z n c dv ov av wv σ) (k : Int) (ba ka : Option Addr) (bl bc kc : Nat) (ks img : List Int) (hM : n * z = bl) (hc : c < 800) (tb : List Int) (hB : TextAt W ba bl bc tb) :
    Calls Try.prog 13 #[.pointer (some ⟨p, 0, none⟩), .pointer (some ⟨r, 0, none⟩), .agg #[.int .i64 8, .int .i64 k, .slice ba bl bc, .slice ka ks.length kc], .string (strOfNums img)] w fun e w' => e = .returned (.tuple #[.string (strOfNums img), .bool true]) ∧ ∃ v2 av2 wv2 τ, Two W w' r p bb z n (c + 1) v2 ov av2 wv2 τ := by
  have Kv := hid (Blk.new (w := w) (n := w.heap.size) rfl #[.int .i64 8, .int .i64 k, .slice ba bl bc, .slice ka ks.length kc] 34)
  have bw := (Below.refl w.heap.size w).alloc (Nat.le_refl _) (.cells #[.int .i64 8, .int .i64 k, .slice ba bl bc, .slice ka ks.length kc] 34 (0, 0))
  have HT := hid (hT.on bw)
  have z1 := hT.z1
  have z2 := hT.z2
  have n1 := hT.n1
  have n2 := hT.n2
  have few := hT.few
  have hout := hid (show w.heap.size ∉ dkS p bb dv from fun q => Nat.lt_irrefl _ (dkS_lt hT.dk _ q).2)
  have hro := hid (show w.heap.size ∉ rfS r ov av wv from fun q => Nat.lt_irrefl _ (rfS_lt2 hT.rf _ q).2)
  clear hT bw
  have cv0 : (w.alloc (.cells #[.int .i64 8, .int .i64 k, .slice ba bl bc, .slice ka ks.length kc] 34 (0, 0))).cell? ⟨w.heap.size, 0, none⟩ = some (.int .i64 8) := by rw [Kv.out.cell]; rfl
  have cv1 : (w.alloc (.cells #[.int .i64 8, .int .i64 k, .slice ba bl bc, .slice ka ks.length kc] 34 (0, 0))).cell? ⟨w.heap.size, 1, none⟩ = some (.int .i64 k) := by rw [Kv.out.cell]; rfl
  have cv2 : (w.alloc (.cells #[.int .i64 8, .int .i64 k, .slice ba bl bc, .slice ka ks.length kc] 34 (0, 0))).cell? ⟨w.heap.size, 2, none⟩ = some (.slice ba bl bc) := by rw [Kv.out.cell]; rfl
  have cv3 : (w.alloc (.cells #[.int .i64 8, .int .i64 k, .slice ba bl bc, .slice ka ks.length kc] 34 (0, 0))).cell? ⟨w.heap.size, 3, none⟩ = some (.slice ka ks.length kc) := by rw [Kv.out.cell]; rfl
  have hMI : (n : Int) * (z : Int) = (bl : Int) := by rw [← hM]; simp
  have hM3 : bl ≤ 64 * 512 := by rw [← hM]; exact Nat.mul_le_mul n2 z2
  have htl := hid hB.length
  go_enter Try.func13, Try.ntmps13
  go_wp2_with fail
  obtain ⟨left, rk, r1, -⟩ := HT.out.rf.ex
  obtain ⟨oa, oc, hov⟩ := owns_slice r1.on
  rw [HT.out.ok.len] at hov
  have KR := hid r1.kr
  rw [hov] at KR
  clear r1
  refine wp_region_flow 14 (List.range 14) [] [] (by kernel_rfl) (by kernel_rfl) ?_
  apply Exists.intro
  refine ⟨fun w0 hb0 hF0 => ?_, ?_⟩
  · skip
    have y0 : ∀ w', (∃ x : Ext w0, w' = x.at_) → w'.cell? ⟨r, 0, none⟩ = some (.int .i64 (z : Int)) := fun w' ⟨x, hx⟩ => by rw [hx]; exact by rw [((KR.out.below hb0).below x.same).cell]; rfl
    have y1 : ∀ w', (∃ x : Ext w0, w' = x.at_) → w'.cell? ⟨r, 1, none⟩ = some (.slice oa n oc) := fun w' ⟨x, hx⟩ => by rw [hx]; exact by rw [((KR.out.below hb0).below x.same).cell]; rfl
    have y2 : ∀ w', (∃ x : Ext w0, w' = x.at_) → w'.cell? ⟨w.heap.size, 2, none⟩ = some (.slice ba bl bc) := fun w' ⟨x, hx⟩ => by rw [hx]; exact by rw [((Kv.out.below hb0).below x.same).cell]; rfl
    simp only [pick, List.range, List.range.loop, List.getElem?_toArray, List.getElem?_cons_succ, List.getElem?_cons_zero, Option.toList_some, List.cons_append, List.nil_append]
    repeat (first | (go_big_quiet_want; refine quiet_load_one 3 _ rfl ⟨r, 0, none⟩ rfl _ y0 _ Try.underlying3 rfl ?_; go_big_quiet_on; simp only [Act.put, List.setIfInBounds_toArray, List.set_cons_zero, List.set_cons_succ]) | (go_big_quiet_want; refine quiet_load_one 63 _ rfl ⟨r, 1, none⟩ rfl _ y1 _ Try.underlying63 rfl ?_; go_big_quiet_on; simp only [Act.put, List.setIfInBounds_toArray, List.set_cons_zero, List.set_cons_succ]) | (go_big_quiet_want; refine quiet_load_one 31 _ rfl ⟨w.heap.size, 2, none⟩ rfl _ y2 _ Try.underlying31 rfl ?_; go_big_quiet_on; simp only [Act.put, List.setIfInBounds_toArray, List.set_cons_zero, List.set_cons_succ]) | go_big_quiet_step (fail))
    exact wpQuiet_nil rfl
  refine AlChk.nil ?_
  refine Walk.fin fun w1 hw1 _ _ => ?_
  simp only [List.drop_succ_cons, List.drop_zero]
  have HT1 := hid (HT.out.on hw1)
  have K1 := hid (Kv.out.below hw1)
  have f2 : w1.cell? ⟨w.heap.size, 2, none⟩ = some (.slice ba bl bc) := by rw [K1.out.cell]; rfl
  clear hw1
  have TB1 := hid (hB.below HT1.out.below)
  have hcv := TB1.out.string (src := 31) (dst := 9) Try.underlying31 Try.underlying5 Try.underlying9
  go_wp2_with fail
  refine (rrestore_any _ _ r z n c ov av wv σ _ HT1.out.rf HT1.out.ok z2 n1 n2 tb (by have := htl.out; omega)).mono ?_
  rintro e w2 ⟨rfl, b2, r2⟩
  obtain ⟨hB2, hD2⟩ := HT1.out.ref b2 rfS_nil
  have hsz1 : w.heap.size < w1.heap.size := K1.out.lt
  have K2 := hid (b2.blk K1.out (fun q => hro.out q))
  have g2 : w2.cell? ⟨w.heap.size, 2, none⟩ = some (.slice ba bl bc) := by rw [K2.out.cell]; rfl
  have HB2 := hid hB2
  have HD2 := hid hD2
  have HR2 := hid r2
  clear b2 r2 hB2 hD2
  have htl2 := htl.out
  have HB3 := HB2
  have HD3 := HD2
  have HR3 := HR2
  go_wp2_with fail
  refine (drestore_any _ _ p bb z n c _ σ _ HD3.out HT1.out.ok ba bc tb bl (by omega) (hB.below HB3.out)).mono ?_
  rintro e w4 ⟨rfl, b4, d4⟩
  have HZ := hid (Two.disk (c' := c + 1) HB3.out HD3.out HR3.out b4 dkS_nil d4 ((HT1.out.ok.re _ (by have := htl.out; omega)).up) z1 z2 n1 n2 (by omega))
  clear b4 d4
  go_wp2_with fail
  go_returns
  exact ⟨by first | rfl | simp, _, _, _, _, HZ.out⟩
end Go.Proofs.Ytmpgnpkodapidaa

namespace Go.Proofs.Ytmpgnpkodapidaa
open Go.ChangeShapes Go.WideShapes Go.ChangeAt Go.RowKit

set_option maxHeartbeats 4000000 in
set_option maxRecDepth 100000 in
theorem step_image (W w : World) (r p bb z n c : Nat) (dv ov av wv : Value) (σ : PS) (hT : Two W w r p bb z n c dv ov av wv σ) (k : Int) (ba ka : Option Addr) (bl bc kc : Nat) (ks img : List Int) (hc : c < 800) :
    Calls Try.prog 13 #[.pointer (some ⟨p, 0, none⟩), .pointer (some ⟨r, 0, none⟩), .agg #[.int .i64 6, .int .i64 k, .slice ba bl bc, .slice ka ks.length kc], .string (strOfNums img)] w fun e w' => e = .returned (.tuple #[.string (strOfNums σ.On.flatten), .bool true]) ∧ ∃ v2 av2 wv2 τ, Two W w' r p bb z n (c + 1) v2 ov av2 wv2 τ := by
  have Kv := hid (Blk.new (w := w) (n := w.heap.size) rfl #[.int .i64 6, .int .i64 k, .slice ba bl bc, .slice ka ks.length kc] 34)
  have bw := (Below.refl w.heap.size w).alloc (Nat.le_refl _) (.cells #[.int .i64 6, .int .i64 k, .slice ba bl bc, .slice ka ks.length kc] 34 (0, 0))
  have HT := hid (hT.on bw)
  have z1 := hT.z1
  have z2 := hT.z2
  have n1 := hT.n1
  have n2 := hT.n2
  have few := hT.few
  have hout := hid (show w.heap.size ∉ dkS p bb dv from fun q => Nat.lt_irrefl _ (dkS_lt hT.dk _ q).2)
  clear hT bw
  have cv0 : (w.alloc (.cells #[.int .i64 6, .int .i64 k, .slice ba bl bc, .slice ka ks.length kc] 34 (0, 0))).cell? ⟨w.heap.size, 0, none⟩ = some (.int .i64 6) := by rw [Kv.out.cell]; rfl
  have cv1 : (w.alloc (.cells #[.int .i64 6, .int .i64 k, .slice ba bl bc, .slice ka ks.length kc] 34 (0, 0))).cell? ⟨w.heap.size, 1, none⟩ = some (.int .i64 k) := by rw [Kv.out.cell]; rfl
  have cv2 : (w.alloc (.cells #[.int .i64 6, .int .i64 k, .slice ba bl bc, .slice ka ks.length kc] 34 (0, 0))).cell? ⟨w.heap.size, 2, none⟩ = some (.slice ba bl bc) := by rw [Kv.out.cell]; rfl
  have cv3 : (w.alloc (.cells #[.int .i64 6, .int .i64 k, .slice ba bl bc, .slice ka ks.length kc] 34 (0, 0))).cell? ⟨w.heap.size, 3, none⟩ = some (.slice ka ks.length kc) := by rw [Kv.out.cell]; rfl
  have hnz : n ≤ 64 := n2
  obtain ⟨left, rk, r1, -⟩ := HT.out.rf.ex
  obtain ⟨set, af, kv, d1, -⟩ := HT.out.dk.ex
  have HR1 := hid r1
  have HD1 := hid d1
  clear r1 d1
  obtain ⟨B, hB0⟩ : ∃ B, σ.On.flatten = B := ⟨_, rfl⟩
  rw [hB0] at HD1
  rw [hB0]
  have hBf := hid hB0
  clear hB0
  have hlen := HT.out.ok.len
  have hsec := HT.out.ok.sec
  go_enter Try.func13, Try.ntmps13
  go_wp2_with fail
  refine wp_region_flow 10 [0, 2, 5] [] [(.c 1, [], []), (.c 3, [4], []), (.c 6, [7, 8, 9], [])] (by kernel_rfl) (by kernel_rfl) ?_
  apply Exists.intro
  refine ⟨fun w0 hb0 hF0 => ?_, ?_⟩
  · skip
    simp only [pick, List.getElem?_toArray, List.getElem?_cons_succ, List.getElem?_cons_zero, Option.toList_some, List.cons_append, List.nil_append]
    repeat (first | go_big_quiet_step (fail))
    exact wpQuiet_nil rfl
  refine AlChk.nil ?_
  refine Walk.call rfl 15 #[.pointer (some ⟨r, 0, none⟩)] (fun v _ => v = .string (strOfNums B)) (fun _ _ _ h _ => h) rfl (fun y1 hy1 hF1 => ⟨by go_simp, ?_⟩) ?_
  · refine (refimage_any y1 _ r z ov av wv σ.On σ.ws _ left rk (HR1.out.below hy1) z2 (by omega) (by omega) hsec).mono ?_
    rintro e y2 ⟨rfl, b2⟩
    exact ⟨_, rfl, b2, by rw [hBf.out]⟩
  rintro v1 y1 hy1 hF1 rfl
  apply Exists.intro
  refine ⟨fun y3 hb3 hF3 => wpQuiet_nil rfl, ?_⟩
  refine AlChk.nil ?_
  refine Walk.call rfl 14 #[.pointer (some ⟨p, 0, none⟩)] (fun v y => ∃ a c, v = .slice a B.length c ∧ TextAt y a B.length c B) (fun _ _ _ h k => by obtain ⟨a, c, h1, h2⟩ := h; exact ⟨a, c, h1, h2.below k⟩) rfl (fun y1 hy1 hF1 => ⟨by go_simp, ?_⟩) ?_
  · refine (image_any y1 p bb z n B dv σ.on set af kv (HD1.out.below hy1)).mono ?_
    rintro e y2 ⟨a, c, rfl, b2, t2⟩
    exact ⟨_, rfl, b2, a, c, rfl, t2⟩
  rintro v2 y4 hy4 hF4 ⟨a4, c4, rfl, t4⟩
  apply Exists.intro
  refine ⟨fun y3 hb3 hF3 => ?_, ?_⟩
  · obtain ⟨a5, c5, hq5, t5⟩ := hF3.2
    cases hq5
    have v0 := conv_str t5
    simp only [pick, List.getElem?_toArray, List.getElem?_cons_succ, List.getElem?_cons_zero, Option.toList_some, List.cons_append, List.nil_append, Act.put, List.setIfInBounds_toArray, List.set_cons_zero, List.set_cons_succ]
    repeat (first | go_big_quiet_step (fail))
    exact wpQuiet_nil rfl
  refine AlChk.nil ?_
  refine Walk.call rfl 15 #[.pointer (some ⟨r, 0, none⟩)] (fun v _ => v = .string (strOfNums B)) (fun _ _ _ h _ => h) rfl (fun y1 hy1 hF1 => ⟨by go_simp, ?_⟩) ?_
  · refine (refimage_any y1 _ r z ov av wv σ.On σ.ws _ left rk (HR1.out.below hy1) z2 (by omega) (by omega) hsec).mono ?_
    rintro e y2 ⟨rfl, b2⟩
    exact ⟨_, rfl, b2, by rw [hBf.out]⟩
  rintro v3 y5 hy5 hF5 rfl
  apply Exists.intro
  refine ⟨fun y3 hb3 hF3 => ?_, ?_⟩
  · simp only [pick, List.getElem?_toArray, List.getElem?_cons_succ, List.getElem?_cons_zero, Option.toList_some, List.cons_append, List.nil_append, Act.put, List.setIfInBounds_toArray, List.set_cons_zero, List.set_cons_succ]
    repeat (first | go_big_quiet_step (fail))
    exact wpQuiet_nil rfl
  refine AlChk.nil ?_
  refine Walk.fin fun w5 h5 hF5 _ => ?_
  simp only [List.drop_succ_cons, List.drop_zero]
  have HT5 := hid (HT.out.on h5)
  clear h5 hF5
  go_wp2_with fail
  go_returns
  have h := HT5.out
  exact ⟨by first | rfl | simp, dv, av, wv, σ, h.below, h.dk, h.rf, h.ok.up, z1, z2, n1, n2, by omega⟩
end Go.Proofs.Ytmpgnpkodapidaa

namespace Go.Proofs.Ytmpgnpkodapidaa
open Go.ChangeShapes Go.WideShapes Go.ChangeAt Go.RowKit

set_option maxHeartbeats 4000000 in
set_option maxRecDepth 100000 in
theorem step_write_off_zero (W w : World) (r p bb z n c : Nat) (dv ov av wv : Value) (σ : PS) (hT : Two W w r p bb z n c dv ov av wv σ) (k : Int) (ba ka : Option Addr) (bc kc : Nat) (ks img : List Int) (hon : σ.on = false) (hc : c < 800) :
    Calls Try.prog 13 #[.pointer (some ⟨p, 0, none⟩), .pointer (some ⟨r, 0, none⟩), .agg #[.int .i64 0, .int .i64 k, .slice ba 0 bc, .slice ka ks.length kc], .string (strOfNums img)] w fun e w' => e = .returned (.tuple #[.string (strOfNums img), .bool true]) ∧ ∃ v2 av2 wv2 τ, Two W w' r p bb z n (c + 1) v2 ov av2 wv2 τ := by
  have Kv := hid (Blk.new (w := w) (n := w.heap.size) rfl #[.int .i64 0, .int .i64 k, .slice ba 0 bc, .slice ka ks.length kc] 34)
  have bw := (Below.refl w.heap.size w).alloc (Nat.le_refl _) (.cells #[.int .i64 0, .int .i64 k, .slice ba 0 bc, .slice ka ks.length kc] 34 (0, 0))
  have HT := hid (hT.on bw)
  have z1 := hT.z1
  have z2 := hT.z2
  have n1 := hT.n1
  have n2 := hT.n2
  have few := hT.few
  have hout := hid (show w.heap.size ∉ dkS p bb dv from fun q => Nat.lt_irrefl _ (dkS_lt hT.dk _ q).2)
  have hnin := hid (show w.heap.size ∉ dkS p bb dv ++ rfS r ov av wv from fun q => by
    rcases List.mem_append.1 q with h | h
    · exact Nat.lt_irrefl _ (dkS_lt hT.dk _ h).2
    · exact Nat.lt_irrefl _ (rfS_lt2 hT.rf _ h).2)
  clear hT bw
  have cv0 : (w.alloc (.cells #[.int .i64 0, .int .i64 k, .slice ba 0 bc, .slice ka ks.length kc] 34 (0, 0))).cell? ⟨w.heap.size, 0, none⟩ = some (.int .i64 0) := by rw [Kv.out.cell]; rfl
  have cv1 : (w.alloc (.cells #[.int .i64 0, .int .i64 k, .slice ba 0 bc, .slice ka ks.length kc] 34 (0, 0))).cell? ⟨w.heap.size, 1, none⟩ = some (.int .i64 k) := by rw [Kv.out.cell]; rfl
  have cv2 : (w.alloc (.cells #[.int .i64 0, .int .i64 k, .slice ba 0 bc, .slice ka ks.length kc] 34 (0, 0))).cell? ⟨w.heap.size, 2, none⟩ = some (.slice ba 0 bc) := by rw [Kv.out.cell]; rfl
  have cv3 : (w.alloc (.cells #[.int .i64 0, .int .i64 k, .slice ba 0 bc, .slice ka ks.length kc] 34 (0, 0))).cell? ⟨w.heap.size, 3, none⟩ = some (.slice ka ks.length kc) := by rw [Kv.out.cell]; rfl
  go_enter Try.func13, Try.ntmps13
  go_wp2_with fail
  have HTq := HT
  have Kq := Kv
  refine FlowB.wp_region_butIn (dkS p bb dv ++ rfS r ov av wv) (fun wz => DkS wz W.heap.size p bb z n dv σ (rfS r ov av wv) ∧ RfS wz W.heap.size r z ov av wv σ (dkS p bb dv)) 14 [0, 1, 2, 3, 4, 6, 7, 8, 9] [] [(.c 5, [], []), (.c 10, [11, 12, 13], [])] (by kernel_rfl) (by kernel_rfl) ⟨HTq.out.dk, HTq.out.rf⟩ (fun _ _ h hb => ⟨h.1.below hb, h.2.below hb⟩) ?_
  apply Exists.intro
  refine ⟨fun w0 hb0 hF0 => ?_, ?_⟩
  · skip
    have y1 : ∀ w', (∃ x : Ext w0, w' = x.at_) → w'.cell? ⟨w.heap.size, 1, none⟩ = some (.int .i64 k) := fun w' ⟨x, hx⟩ => by rw [hx, ((hb0.blk Kq.out hnin.out).below x.same).cell]; rfl
    simp only [pick, List.getElem?_toArray, List.getElem?_cons_succ, List.getElem?_cons_zero, Option.toList_some, List.cons_append, List.nil_append]
    repeat (first | (go_big_quiet_want; refine quiet_load_one 3 _ rfl ⟨w.heap.size, 1, none⟩ rfl _ y1 _ Try.underlying3 rfl ?_; go_big_quiet_on; simp only [Act.put, List.setIfInBounds_toArray, List.set_cons_zero, List.set_cons_succ]) | go_big_quiet_step (fail))
    exact wpQuiet_nil rfl
  refine FlowB.AlChk.nil ?_
  refine FlowB.Walk.call rfl 16 #[.pointer (some ⟨p, 0, none⟩), .int .i64 k, .slice ba 0 bc] (fun v _ => v = .int .i64 9) (fun _ wz => DkS wz W.heap.size p bb z n dv σ (rfS r ov av wv) ∧ RfS wz W.heap.size r z ov av wv σ (dkS p bb dv)) (fun _ _ _ _ h _ => h) (fun _ _ _ h k => ⟨h.1.below k, h.2.below k⟩) rfl (fun y1 hy1 hF1 hG1 => ⟨by go_simp, ?_⟩) ?_
  · obtain ⟨set, af, kv, d1, -⟩ := hG1.1.ex
    rw [hon] at d1
    refine (write_off y1 p bb z n _ dv set af kv d1 k _).mono ?_
    rintro e y2 ⟨rfl, b2⟩
    exact ⟨_, rfl, ButIn.of_below b2, rfl, hG1.1.below b2, hG1.2.below b2⟩
  rintro v1 y4 hy4 hF4 rfl
  apply Exists.intro
  refine ⟨fun y3 hb3 hF3 => wpQuiet_nil rfl, ?_⟩
  refine FlowB.AlChk.nil ?_
  refine FlowB.Walk.call rfl 35 #[.pointer (some ⟨r, 0, none⟩), .int .i64 k, .slice ba 0 bc] (fun v _ => v = .int .i64 9) (fun _ wz => DkS wz W.heap.size p bb z n dv σ (rfS r ov av wv) ∧ RfS wz W.heap.size r z ov av wv σ (dkS p bb dv)) (fun _ _ _ _ h _ => h) (fun _ _ _ h k => ⟨h.1.below k, h.2.below k⟩) rfl (fun y1 hy1 hF1 hG1 => ⟨by go_simp, ?_⟩) ?_
  · obtain ⟨left, rk, r1, -⟩ := hG1.2.ex
    rw [hon] at r1
    refine (refwrite_off y1 _ r z ov av wv _ _ left rk r1 k _).mono ?_
    rintro e y2 ⟨rfl, b2⟩
    exact ⟨_, rfl, ButIn.of_below b2, rfl, hG1.1.below b2, hG1.2.below b2⟩
  rintro v2 y5 hy5 hF5 rfl
  apply Exists.intro
  refine ⟨fun y3 hb3 hF3 => ?_, ?_⟩
  · simp only [pick, List.getElem?_toArray, List.getElem?_cons_succ, List.getElem?_cons_zero, Option.toList_some, List.cons_append, List.nil_append, Act.put, List.setIfInBounds_toArray, List.set_cons_zero, List.set_cons_succ]
    repeat (first | go_big_quiet_step (fail))
    exact wpQuiet_nil rfl
  refine FlowB.AlChk.nil ?_
  refine FlowB.Walk.fin fun w9 h9 hF9 hG9 => ?_
  simp only [List.drop_succ_cons, List.drop_zero]
  have HZ := hid (show Two W w9 r p bb z n (c + 1) dv ov av wv σ from ⟨below_in HTq.out.below h9 (Nat.le_refl _) (fun q hq => by
      rcases List.mem_append.1 hq with h | h
      · exact (dkS_lt HTq.out.dk q h).1
      · exact (rfS_lt2 HTq.out.rf q h).1), hG9.1, hG9.2, HTq.out.ok.up, z1, z2, n1, n2, by omega⟩)
  clear h9 hF9 hG9
  go_wp2_with fail
  go_returns
  exact ⟨by first | rfl | simp, _, _, _, _, HZ.out⟩
set_option maxHeartbeats 4000000 in
set_option maxRecDepth 100000 in
theorem step_write_off_odd (W w : World) (r p bb z n c : Nat) (dv ov av wv : Value) (σ : PS) (hT : Two W w r p bb z n c dv ov av wv σ) (k : Int) (ba ka : Option Addr) (bl bc kc : Nat) (ks img : List Int) (hb0 : 0 < bl) (hodd : ¬ Int.tmod k 2 = 0) (hon : σ.on = false) (hc : c < 800) :
    Calls Try.prog 13 #[.pointer (some ⟨p, 0, none⟩), .pointer (some ⟨r, 0, none⟩), .agg #[.int .i64 0, .int .i64 k, .slice ba bl bc, .slice ka ks.length kc], .string (strOfNums img)] w fun e w' => e = .returned (.tuple #[.string (strOfNums img), .bool true]) ∧ ∃ v2 av2 wv2 τ, Two W w' r p bb z n (c + 1) v2 ov av2 wv2 τ := by
  have Kv := hid (Blk.new (w := w) (n := w.heap.size) rfl #[.int .i64 0, .int .i64 k, .slice ba bl bc, .slice ka ks.length kc] 34)
  have bw := (Below.refl w.heap.size w).alloc (Nat.le_refl _) (.cells #[.int .i64 0, .int .i64 k, .slice ba bl bc, .slice ka ks.length kc] 34 (0, 0))
  have HT := hid (hT.on bw)
  have z1 := hT.z1
  have z2 := hT.z2
  have n1 := hT.n1
  have n2 := hT.n2
  have few := hT.few
  have hout := hid (show w.heap.size ∉ dkS p bb dv from fun q => Nat.lt_irrefl _ (dkS_lt hT.dk _ q).2)
  have hnin := hid (show w.heap.size ∉ dkS p bb dv ++ rfS r ov av wv from fun q => by
    rcases List.mem_append.1 q with h | h
    · exact Nat.lt_irrefl _ (dkS_lt hT.dk _ h).2
    · exact Nat.lt_irrefl _ (rfS_lt2 hT.rf _ h).2)
  clear hT bw
  have cv0 : (w.alloc (.cells #[.int .i64 0, .int .i64 k, .slice ba bl bc, .slice ka ks.length kc] 34 (0, 0))).cell? ⟨w.heap.size, 0, none⟩ = some (.int .i64 0) := by rw [Kv.out.cell]; rfl
  have cv1 : (w.alloc (.cells #[.int .i64 0, .int .i64 k, .slice ba bl bc, .slice ka ks.length kc] 34 (0, 0))).cell? ⟨w.heap.size, 1, none⟩ = some (.int .i64 k) := by rw [Kv.out.cell]; rfl
  have cv2 : (w.alloc (.cells #[.int .i64 0, .int .i64 k, .slice ba bl bc, .slice ka ks.length kc] 34 (0, 0))).cell? ⟨w.heap.size, 2, none⟩ = some (.slice ba bl bc) := by rw [Kv.out.cell]; rfl
  have cv3 : (w.alloc (.cells #[.int .i64 0, .int .i64 k, .slice ba bl bc, .slice ka ks.length kc] 34 (0, 0))).cell? ⟨w.heap.size, 3, none⟩ = some (.slice ka ks.length kc) := by rw [Kv.out.cell]; rfl
  have hb1 : (0 : Int) < (bl : Int) := by omega
  have hb2 : (Int.tmod k 2 == 0) = false := by simpa using hodd
  go_enter Try.func13, Try.ntmps13
  go_wp2_with fail
  have HTq := HT
  have Kq := Kv
  refine FlowB.wp_region_butIn (dkS p bb dv ++ rfS r ov av wv) (fun wz => DkS wz W.heap.size p bb z n dv σ (rfS r ov av wv) ∧ RfS wz W.heap.size r z ov av wv σ (dkS p bb dv)) 14 [0, 1, 2, 3, 4, 6, 7, 8, 9] [] [(.c 5, [], []), (.c 10, [11, 12, 13], [])] (by kernel_rfl) (by kernel_rfl) ⟨HTq.out.dk, HTq.out.rf⟩ (fun _ _ h hb => ⟨h.1.below hb, h.2.below hb⟩) ?_
  apply Exists.intro
  refine ⟨fun w0 hb0 hF0 => ?_, ?_⟩
  · skip
    have y1 : ∀ w', (∃ x : Ext w0, w' = x.at_) → w'.cell? ⟨w.heap.size, 1, none⟩ = some (.int .i64 k) := fun w' ⟨x, hx⟩ => by rw [hx, ((hb0.blk Kq.out hnin.out).below x.same).cell]; rfl
    simp only [pick, List.getElem?_toArray, List.getElem?_cons_succ, List.getElem?_cons_zero, Option.toList_some, List.cons_append, List.nil_append]
    repeat (first | (go_big_quiet_want; refine quiet_load_one 3 _ rfl ⟨w.heap.size, 1, none⟩ rfl _ y1 _ Try.underlying3 rfl ?_; go_big_quiet_on; simp only [Act.put, List.setIfInBounds_toArray, List.set_cons_zero, List.set_cons_succ]) | go_big_quiet_step (fail))
    exact wpQuiet_nil rfl
  refine FlowB.AlChk.nil ?_
  refine FlowB.Walk.call rfl 16 #[.pointer (some ⟨p, 0, none⟩), .int .i64 k, .slice ba bl bc] (fun v _ => v = .int .i64 9) (fun _ wz => DkS wz W.heap.size p bb z n dv σ (rfS r ov av wv) ∧ RfS wz W.heap.size r z ov av wv σ (dkS p bb dv)) (fun _ _ _ _ h _ => h) (fun _ _ _ h k => ⟨h.1.below k, h.2.below k⟩) rfl (fun y1 hy1 hF1 hG1 => ⟨by go_simp, ?_⟩) ?_
  · obtain ⟨set, af, kv, d1, -⟩ := hG1.1.ex
    rw [hon] at d1
    refine (write_off y1 p bb z n _ dv set af kv d1 k _).mono ?_
    rintro e y2 ⟨rfl, b2⟩
    exact ⟨_, rfl, ButIn.of_below b2, rfl, hG1.1.below b2, hG1.2.below b2⟩
  rintro v1 y4 hy4 hF4 rfl
  apply Exists.intro
  refine ⟨fun y3 hb3 hF3 => wpQuiet_nil rfl, ?_⟩
  refine FlowB.AlChk.nil ?_
  refine FlowB.Walk.call rfl 35 #[.pointer (some ⟨r, 0, none⟩), .int .i64 k, .slice ba bl bc] (fun v _ => v = .int .i64 9) (fun _ wz => DkS wz W.heap.size p bb z n dv σ (rfS r ov av wv) ∧ RfS wz W.heap.size r z ov av wv σ (dkS p bb dv)) (fun _ _ _ _ h _ => h) (fun _ _ _ h k => ⟨h.1.below k, h.2.below k⟩) rfl (fun y1 hy1 hF1 hG1 => ⟨by go_simp, ?_⟩) ?_
  · obtain ⟨left, rk, r1, -⟩ := hG1.2.ex
    rw [hon] at r1
    refine (refwrite_off y1 _ r z ov av wv _ _ left rk r1 k _).mono ?_
    rintro e y2 ⟨rfl, b2⟩
    exact ⟨_, rfl, ButIn.of_below b2, rfl, hG1.1.below b2, hG1.2.below b2⟩
  rintro v2 y5 hy5 hF5 rfl
  apply Exists.intro
  refine ⟨fun y3 hb3 hF3 => ?_, ?_⟩
  · simp only [pick, List.getElem?_toArray, List.getElem?_cons_succ, List.getElem?_cons_zero, Option.toList_some, List.cons_append, List.nil_append, Act.put, List.setIfInBounds_toArray, List.set_cons_zero, List.set_cons_succ]
    repeat (first | go_big_quiet_step (fail))
    exact wpQuiet_nil rfl
  refine FlowB.AlChk.nil ?_
  refine FlowB.Walk.fin fun w9 h9 hF9 hG9 => ?_
  simp only [List.drop_succ_cons, List.drop_zero]
  have HZ := hid (show Two W w9 r p bb z n (c + 1) dv ov av wv σ from ⟨below_in HTq.out.below h9 (Nat.le_refl _) (fun q hq => by
      rcases List.mem_append.1 hq with h | h
      · exact (dkS_lt HTq.out.dk q h).1
      · exact (rfS_lt2 HTq.out.rf q h).1), hG9.1, hG9.2, HTq.out.ok.up, z1, z2, n1, n2, by omega⟩)
  clear h9 hF9 hG9
  go_wp2_with fail
  go_returns
  exact ⟨by first | rfl | simp, _, _, _, _, HZ.out⟩
set_option maxHeartbeats 4000000 in
set_option maxRecDepth 100000 in
theorem step_write_bad_zero (W w : World) (r p bb z n c : Nat) (dv ov av wv : Value) (σ : PS) (hT : Two W w r p bb z n c dv ov av wv σ) (k : Int) (ba ka : Option Addr) (bc kc : Nat) (ks img : List Int) (hon : σ.on = true) (hbd : k < 0 ∨ (n : Int) ≤ k ∨ 0 ≠ z) (hc : c < 800) :
    Calls Try.prog 13 #[.pointer (some ⟨p, 0, none⟩), .pointer (some ⟨r, 0, none⟩), .agg #[.int .i64 0, .int .i64 k, .slice ba 0 bc, .slice ka ks.length kc], .string (strOfNums img)] w fun e w' => e = .returned (.tuple #[.string (strOfNums img), .bool true]) ∧ ∃ v2 av2 wv2 τ, Two W w' r p bb z n (c + 1) v2 ov av2 wv2 τ := by
  have Kv := hid (Blk.new (w := w) (n := w.heap.size) rfl #[.int .i64 0, .int .i64 k, .slice ba 0 bc, .slice ka ks.length kc] 34)
  have bw := (Below.refl w.heap.size w).alloc (Nat.le_refl _) (.cells #[.int .i64 0, .int .i64 k, .slice ba 0 bc, .slice ka ks.length kc] 34 (0, 0))
  have HT := hid (hT.on bw)
  have z1 := hT.z1
  have z2 := hT.z2
  have n1 := hT.n1
  have n2 := hT.n2
  have few := hT.few
  have hout := hid (show w.heap.size ∉ dkS p bb dv from fun q => Nat.lt_irrefl _ (dkS_lt hT.dk _ q).2)
  have hnin := hid (show w.heap.size ∉ dkS p bb dv ++ rfS r ov av wv from fun q => by
    rcases List.mem_append.1 q with h | h
    · exact Nat.lt_irrefl _ (dkS_lt hT.dk _ h).2
    · exact Nat.lt_irrefl _ (rfS_lt2 hT.rf _ h).2)
  clear hT bw
  have cv0 : (w.alloc (.cells #[.int .i64 0, .int .i64 k, .slice ba 0 bc, .slice ka ks.length kc] 34 (0, 0))).cell? ⟨w.heap.size, 0, none⟩ = some (.int .i64 0) := by rw [Kv.out.cell]; rfl
  have cv1 : (w.alloc (.cells #[.int .i64 0, .int .i64 k, .slice ba 0 bc, .slice ka ks.length kc] 34 (0, 0))).cell? ⟨w.heap.size, 1, none⟩ = some (.int .i64 k) := by rw [Kv.out.cell]; rfl
  have cv2 : (w.alloc (.cells #[.int .i64 0, .int .i64 k, .slice ba 0 bc, .slice ka ks.length kc] 34 (0, 0))).cell? ⟨w.heap.size, 2, none⟩ = some (.slice ba 0 bc) := by rw [Kv.out.cell]; rfl
  have cv3 : (w.alloc (.cells #[.int .i64 0, .int .i64 k, .slice ba 0 bc, .slice ka ks.length kc] 34 (0, 0))).cell? ⟨w.heap.size, 3, none⟩ = some (.slice ka ks.length kc) := by rw [Kv.out.cell]; rfl
  have hbad := hid hbd
  go_enter Try.func13, Try.ntmps13
  go_wp2_with fail
  have HTq := HT
  have Kq := Kv
  refine FlowB.wp_region_butIn (dkS p bb dv ++ rfS r ov av wv) (fun wz => DkS wz W.heap.size p bb z n dv σ (rfS r ov av wv) ∧ RfS wz W.heap.size r z ov av wv σ (dkS p bb dv)) 14 [0, 1, 2, 3, 4, 6, 7, 8, 9] [] [(.c 5, [], []), (.c 10, [11, 12, 13], [])] (by kernel_rfl) (by kernel_rfl) ⟨HTq.out.dk, HTq.out.rf⟩ (fun _ _ h hb => ⟨h.1.below hb, h.2.below hb⟩) ?_
  apply Exists.intro
  refine ⟨fun w0 hb0 hF0 => ?_, ?_⟩
  · skip
    have y1 : ∀ w', (∃ x : Ext w0, w' = x.at_) → w'.cell? ⟨w.heap.size, 1, none⟩ = some (.int .i64 k) := fun w' ⟨x, hx⟩ => by rw [hx, ((hb0.blk Kq.out hnin.out).below x.same).cell]; rfl
    simp only [pick, List.getElem?_toArray, List.getElem?_cons_succ, List.getElem?_cons_zero, Option.toList_some, List.cons_append, List.nil_append]
    repeat (first | (go_big_quiet_want; refine quiet_load_one 3 _ rfl ⟨w.heap.size, 1, none⟩ rfl _ y1 _ Try.underlying3 rfl ?_; go_big_quiet_on; simp only [Act.put, List.setIfInBounds_toArray, List.set_cons_zero, List.set_cons_succ]) | go_big_quiet_step (fail))
    exact wpQuiet_nil rfl
  refine FlowB.AlChk.nil ?_
  refine FlowB.Walk.call rfl 16 #[.pointer (some ⟨p, 0, none⟩), .int .i64 k, .slice ba 0 bc] (fun v _ => v = .int .i64 1) (fun _ wz => DkS wz W.heap.size p bb z n dv σ (rfS r ov av wv) ∧ RfS wz W.heap.size r z ov av wv σ (dkS p bb dv)) (fun _ _ _ _ h _ => h) (fun _ _ _ h k => ⟨h.1.below k, h.2.below k⟩) rfl (fun y1 hy1 hF1 hG1 => ⟨by go_simp, ?_⟩) ?_
  · obtain ⟨set, af, kv, d1, -⟩ := hG1.1.ex
    rw [hon] at d1
    refine (write_bad y1 p bb z n _ dv set af kv d1 k ba 0 bc hbad.out).mono ?_
    rintro e y2 ⟨rfl, b2⟩
    exact ⟨_, rfl, ButIn.of_below b2, rfl, hG1.1.below b2, hG1.2.below b2⟩
  rintro v1 y4 hy4 hF4 rfl
  apply Exists.intro
  refine ⟨fun y3 hb3 hF3 => wpQuiet_nil rfl, ?_⟩
  refine FlowB.AlChk.nil ?_
  refine FlowB.Walk.call rfl 35 #[.pointer (some ⟨r, 0, none⟩), .int .i64 k, .slice ba 0 bc] (fun v _ => v = .int .i64 1) (fun _ wz => DkS wz W.heap.size p bb z n dv σ (rfS r ov av wv) ∧ RfS wz W.heap.size r z ov av wv σ (dkS p bb dv)) (fun _ _ _ _ h _ => h) (fun _ _ _ h k => ⟨h.1.below k, h.2.below k⟩) rfl (fun y1 hy1 hF1 hG1 => ⟨by go_simp, ?_⟩) ?_
  · obtain ⟨left, rk, r1, -⟩ := hG1.2.ex
    rw [hon] at r1
    refine (refwrite_bad y1 _ r z ov av wv _ _ left rk r1 (by rw [HTq.out.ok.len]; omega) k ba 0 bc (by rw [HTq.out.ok.len]; exact hbad.out)).mono ?_
    rintro e y2 ⟨rfl, b2⟩
    exact ⟨_, rfl, ButIn.of_below b2, rfl, hG1.1.below b2, hG1.2.below b2⟩
  rintro v2 y5 hy5 hF5 rfl
  apply Exists.intro
  refine ⟨fun y3 hb3 hF3 => ?_, ?_⟩
  · simp only [pick, List.getElem?_toArray, List.getElem?_cons_succ, List.getElem?_cons_zero, Option.toList_some, List.cons_append, List.nil_append, Act.put, List.setIfInBounds_toArray, List.set_cons_zero, List.set_cons_succ]
    repeat (first | go_big_quiet_step (fail))
    exact wpQuiet_nil rfl
  refine FlowB.AlChk.nil ?_
  refine FlowB.Walk.fin fun w9 h9 hF9 hG9 => ?_
  simp only [List.drop_succ_cons, List.drop_zero]
  have HZ := hid (show Two W w9 r p bb z n (c + 1) dv ov av wv σ from ⟨below_in HTq.out.below h9 (Nat.le_refl _) (fun q hq => by
      rcases List.mem_append.1 hq with h | h
      · exact (dkS_lt HTq.out.dk q h).1
      · exact (rfS_lt2 HTq.out.rf q h).1), hG9.1, hG9.2, HTq.out.ok.up, z1, z2, n1, n2, by omega⟩)
  clear h9 hF9 hG9
  go_wp2_with fail
  go_returns
  exact ⟨by first | rfl | simp, _, _, _, _, HZ.out⟩
set_option maxHeartbeats 4000000 in
set_option maxRecDepth 100000 in
theorem step_write_bad_odd (W w : World) (r p bb z n c : Nat) (dv ov av wv : Value) (σ : PS) (hT : Two W w r p bb z n c dv ov av wv σ) (k : Int) (ba ka : Option Addr) (bl bc kc : Nat) (ks img : List Int) (hb0 : 0 < bl) (hodd : ¬ Int.tmod k 2 = 0) (hon : σ.on = true) (hbd : k < 0 ∨ (n : Int) ≤ k ∨ bl ≠ z) (hc : c < 800) :
    Calls Try.prog 13 #[.pointer (some ⟨p, 0, none⟩), .pointer (some ⟨r, 0, none⟩), .agg #[.int .i64 0, .int .i64 k, .slice ba bl bc, .slice ka ks.length kc], .string (strOfNums img)] w fun e w' => e = .returned (.tuple #[.string (strOfNums img), .bool true]) ∧ ∃ v2 av2 wv2 τ, Two W w' r p bb z n (c + 1) v2 ov av2 wv2 τ := by
  have Kv := hid (Blk.new (w := w) (n := w.heap.size) rfl #[.int .i64 0, .int .i64 k, .slice ba bl bc, .slice ka ks.length kc] 34)
  have bw := (Below.refl w.heap.size w).alloc (Nat.le_refl _) (.cells #[.int .i64 0, .int .i64 k, .slice ba bl bc, .slice ka ks.length kc] 34 (0, 0))
  have HT := hid (hT.on bw)
  have z1 := hT.z1
  have z2 := hT.z2
  have n1 := hT.n1
  have n2 := hT.n2
  have few := hT.few
  have hout := hid (show w.heap.size ∉ dkS p bb dv from fun q => Nat.lt_irrefl _ (dkS_lt hT.dk _ q).2)
  have hnin := hid (show w.heap.size ∉ dkS p bb dv ++ rfS r ov av wv from fun q => by
    rcases List.mem_append.1 q with h | h
    · exact Nat.lt_irrefl _ (dkS_lt hT.dk _ h).2
    · exact Nat.lt_irrefl _ (rfS_lt2 hT.rf _ h).2)
  clear hT bw
  have cv0 : (w.alloc (.cells #[.int .i64 0, .int .i64 k, .slice ba bl bc, .slice ka ks.length kc] 34 (0, 0))).cell? ⟨w.heap.size, 0, none⟩ = some (.int .i64 0) := by rw [Kv.out.cell]; rfl
  have cv1 : (w.alloc (.cells #[.int .i64 0, .int .i64 k, .slice ba bl bc, .slice ka ks.length kc] 34 (0, 0))).cell? ⟨w.heap.size, 1, none⟩ = some (.int .i64 k) := by rw [Kv.out.cell]; rfl
  have cv2 : (w.alloc (.cells #[.int .i64 0, .int .i64 k, .slice ba bl bc, .slice ka ks.length kc] 34 (0, 0))).cell? ⟨w.heap.size, 2, none⟩ = some (.slice ba bl bc) := by rw [Kv.out.cell]; rfl
  have cv3 : (w.alloc (.cells #[.int .i64 0, .int .i64 k, .slice ba bl bc, .slice ka ks.length kc] 34 (0, 0))).cell? ⟨w.heap.size, 3, none⟩ = some (.slice ka ks.length kc) := by rw [Kv.out.cell]; rfl
  have hb1 : (0 : Int) < (bl : Int) := by omega
  have hb2 : (Int.tmod k 2 == 0) = false := by simpa using hodd
  have hbad := hid hbd
  go_enter Try.func13, Try.ntmps13
  go_wp2_with fail
  have HTq := HT
  have Kq := Kv
  refine FlowB.wp_region_butIn (dkS p bb dv ++ rfS r ov av wv) (fun wz => DkS wz W.heap.size p bb z n dv σ (rfS r ov av wv) ∧ RfS wz W.heap.size r z ov av wv σ (dkS p bb dv)) 14 [0, 1, 2, 3, 4, 6, 7, 8, 9] [] [(.c 5, [], []), (.c 10, [11, 12, 13], [])] (by kernel_rfl) (by kernel_rfl) ⟨HTq.out.dk, HTq.out.rf⟩ (fun _ _ h hb => ⟨h.1.below hb, h.2.below hb⟩) ?_
  apply Exists.intro
  refine ⟨fun w0 hb0 hF0 => ?_, ?_⟩
  · skip
    have y1 : ∀ w', (∃ x : Ext w0, w' = x.at_) → w'.cell? ⟨w.heap.size, 1, none⟩ = some (.int .i64 k) := fun w' ⟨x, hx⟩ => by rw [hx, ((hb0.blk Kq.out hnin.out).below x.same).cell]; rfl
    simp only [pick, List.getElem?_toArray, List.getElem?_cons_succ, List.getElem?_cons_zero, Option.toList_some, List.cons_append, List.nil_append]
    repeat (first | (go_big_quiet_want; refine quiet_load_one 3 _ rfl ⟨w.heap.size, 1, none⟩ rfl _ y1 _ Try.underlying3 rfl ?_; go_big_quiet_on; simp only [Act.put, List.setIfInBounds_toArray, List.set_cons_zero, List.set_cons_succ]) | go_big_quiet_step (fail))
    exact wpQuiet_nil rfl
  refine FlowB.AlChk.nil ?_
  refine FlowB.Walk.call rfl 16 #[.pointer (some ⟨p, 0, none⟩), .int .i64 k, .slice ba bl bc] (fun v _ => v = .int .i64 1) (fun _ wz => DkS wz W.heap.size p bb z n dv σ (rfS r ov av wv) ∧ RfS wz W.heap.size r z ov av wv σ (dkS p bb dv)) (fun _ _ _ _ h _ => h) (fun _ _ _ h k => ⟨h.1.below k, h.2.below k⟩) rfl (fun y1 hy1 hF1 hG1 => ⟨by go_simp, ?_⟩) ?_
  · obtain ⟨set, af, kv, d1, -⟩ := hG1.1.ex
    rw [hon] at d1
    refine (write_bad y1 p bb z n _ dv set af kv d1 k ba bl bc hbad.out).mono ?_
    rintro e y2 ⟨rfl, b2⟩
    exact ⟨_, rfl, ButIn.of_below b2, rfl, hG1.1.below b2, hG1.2.below b2⟩
  rintro v1 y4 hy4 hF4 rfl
  apply Exists.intro
  refine ⟨fun y3 hb3 hF3 => wpQuiet_nil rfl, ?_⟩
  refine FlowB.AlChk.nil ?_
  refine FlowB.Walk.call rfl 35 #[.pointer (some ⟨r, 0, none⟩), .int .i64 k, .slice ba bl bc] (fun v _ => v = .int .i64 1) (fun _ wz => DkS wz W.heap.size p bb z n dv σ (rfS r ov av wv) ∧ RfS wz W.heap.size r z ov av wv σ (dkS p bb dv)) (fun _ _ _ _ h _ => h) (fun _ _ _ h k => ⟨h.1.below k, h.2.below k⟩) rfl (fun y1 hy1 hF1 hG1 => ⟨by go_simp, ?_⟩) ?_
  · obtain ⟨left, rk, r1, -⟩ := hG1.2.ex
    rw [hon] at r1
    refine (refwrite_bad y1 _ r z ov av wv _ _ left rk r1 (by rw [HTq.out.ok.len]; omega) k ba bl bc (by rw [HTq.out.ok.len]; exact hbad.out)).mono ?_
    rintro e y2 ⟨rfl, b2⟩
    exact ⟨_, rfl, ButIn.of_below b2, rfl, hG1.1.below b2, hG1.2.below b2⟩
  rintro v2 y5 hy5 hF5 rfl
  apply Exists.intro
  refine ⟨fun y3 hb3 hF3 => ?_, ?_⟩
  · simp only [pick, List.getElem?_toArray, List.getElem?_cons_succ, List.getElem?_cons_zero, Option.toList_some, List.cons_append, List.nil_append, Act.put, List.setIfInBounds_toArray, List.set_cons_zero, List.set_cons_succ]
    repeat (first | go_big_quiet_step (fail))
    exact wpQuiet_nil rfl
  refine FlowB.AlChk.nil ?_
  refine FlowB.Walk.fin fun w9 h9 hF9 hG9 => ?_
  simp only [List.drop_succ_cons, List.drop_zero]
  have HZ := hid (show Two W w9 r p bb z n (c + 1) dv ov av wv σ from ⟨below_in HTq.out.below h9 (Nat.le_refl _) (fun q hq => by
      rcases List.mem_append.1 hq with h | h
      · exact (dkS_lt HTq.out.dk q h).1
      · exact (rfS_lt2 HTq.out.rf q h).1), hG9.1, hG9.2, HTq.out.ok.up, z1, z2, n1, n2, by omega⟩)
  clear h9 hF9 hG9
  go_wp2_with fail
  go_returns
  exact ⟨by first | rfl | simp, _, _, _, _, HZ.out⟩
set_option maxHeartbeats 4000000 in
set_option maxRecDepth 100000 in
theorem step_write_odd (W w : World) (r p bb z n c : Nat) (dv ov av wv : Value) (σ : PS) (hT : Two W w r p bb z n c dv ov av wv σ) (k : Int) (ba ka : Option Addr) (bc kc k0 : Nat) (ks img tb : List Int) (hodd : ¬ Int.tmod k 2 = 0) (hon : σ.on = true) (hk0 : k = (k0 : Int)) (hkn : k0 < n) (hB : TextAt W ba z bc tb) (hc : c < 800) :
    Calls Try.prog 13 #[.pointer (some ⟨p, 0, none⟩), .pointer (some ⟨r, 0, none⟩), .agg #[.int .i64 0, .int .i64 k, .slice ba z bc, .slice ka ks.length kc], .string (strOfNums img)] w fun e w' => e = .returned (.tuple #[.string (strOfNums img), .bool true]) ∧ ∃ v2 av2 wv2 τ, Two W w' r p bb z n (c + 1) v2 ov av2 wv2 τ := by
  have Kv := hid (Blk.new (w := w) (n := w.heap.size) rfl #[.int .i64 0, .int .i64 k, .slice ba z bc, .slice ka ks.length kc] 34)
  have bw := (Below.refl w.heap.size w).alloc (Nat.le_refl _) (.cells #[.int .i64 0, .int .i64 k, .slice ba z bc, .slice ka ks.length kc] 34 (0, 0))
  have HT := hid (hT.on bw)
  have z1 := hT.z1
  have z2 := hT.z2
  have n1 := hT.n1
  have n2 := hT.n2
  have few := hT.few
  have hout := hid (show w.heap.size ∉ dkS p bb dv from fun q => Nat.lt_irrefl _ (dkS_lt hT.dk _ q).2)
  have hnin := hid (show w.heap.size ∉ dkS p bb dv ++ rfS r ov av wv from fun q => by
    rcases List.mem_append.1 q with h | h
    · exact Nat.lt_irrefl _ (dkS_lt hT.dk _ h).2
    · exact Nat.lt_irrefl _ (rfS_lt2 hT.rf _ h).2)
  clear hT bw
  have cv0 : (w.alloc (.cells #[.int .i64 0, .int .i64 k, .slice ba z bc, .slice ka ks.length kc] 34 (0, 0))).cell? ⟨w.heap.size, 0, none⟩ = some (.int .i64 0) := by rw [Kv.out.cell]; rfl
  have cv1 : (w.alloc (.cells #[.int .i64 0, .int .i64 k, .slice ba z bc, .slice ka ks.length kc] 34 (0, 0))).cell? ⟨w.heap.size, 1, none⟩ = some (.int .i64 k) := by rw [Kv.out.cell]; rfl
  have cv2 : (w.alloc (.cells #[.int .i64 0, .int .i64 k, .slice ba z bc, .slice ka ks.length kc] 34 (0, 0))).cell? ⟨w.heap.size, 2, none⟩ = some (.slice ba z bc) := by rw [Kv.out.cell]; rfl
  have cv3 : (w.alloc (.cells #[.int .i64 0, .int .i64 k, .slice ba z bc, .slice ka ks.length kc] 34 (0, 0))).cell? ⟨w.heap.size, 3, none⟩ = some (.slice ka ks.length kc) := by rw [Kv.out.cell]; rfl
  have hb1 : (0 : Int) < (z : Int) := by omega
  have hb2 : (Int.tmod k 2 == 0) = false := by simpa using hodd
  have hkk := hid hk0
  clear hk0
  go_enter Try.func13, Try.ntmps13
  go_wp2_with fail
  have HTq := HT
  have Kq := Kv
  have HXq := hid (TextO.mk (S := dkS p bb dv ++ rfS r ov av wv) (hB.below HT.out.below) (fun q hq hm => by
    obtain ⟨x, o, rfl, hx, -⟩ := hB.at_ (by omega)
    cases hq
    have : W.heap.size ≤ x := by
      rcases List.mem_append.1 hm with h | h
      · exact (dkS_lt HT.out.dk _ h).1
      · exact (rfS_lt2 HT.out.rf _ h).1
    omega))
  refine FlowB.wp_region_butIn (dkS p bb dv ++ rfS r ov av wv) (fun wz => DkS wz W.heap.size p bb z n dv σ (rfS r ov av wv) ∧ RfS wz W.heap.size r z ov av wv σ (dkS p bb dv)) 14 [0, 1, 2, 3, 4, 6, 7, 8, 9] [] [(.c 5, [], []), (.c 10, [11, 12, 13], [])] (by kernel_rfl) (by kernel_rfl) ⟨HTq.out.dk, HTq.out.rf⟩ (fun _ _ h hb => ⟨h.1.below hb, h.2.below hb⟩) ?_
  apply Exists.intro
  refine ⟨fun w0 hb0 hF0 => ?_, ?_⟩
  · skip
    have y1 : ∀ w', (∃ x : Ext w0, w' = x.at_) → w'.cell? ⟨w.heap.size, 1, none⟩ = some (.int .i64 k) := fun w' ⟨x, hx⟩ => by rw [hx, ((hb0.blk Kq.out hnin.out).below x.same).cell]; rfl
    simp only [pick, List.getElem?_toArray, List.getElem?_cons_succ, List.getElem?_cons_zero, Option.toList_some, List.cons_append, List.nil_append]
    repeat (first | (go_big_quiet_want; refine quiet_load_one 3 _ rfl ⟨w.heap.size, 1, none⟩ rfl _ y1 _ Try.underlying3 rfl ?_; go_big_quiet_on; simp only [Act.put, List.setIfInBounds_toArray, List.set_cons_zero, List.set_cons_succ]) | go_big_quiet_step (fail))
    exact wpQuiet_nil rfl
  refine FlowB.AlChk.nil ?_
  refine FlowB.Walk.call rfl 16 #[.pointer (some ⟨p, 0, none⟩), .int .i64 k, .slice ba z bc] (fun v _ => v = .int .i64 σ.co) (fun _ wz => ∃ v2, DkS wz W.heap.size p bb z n v2 (σ.wr z (k0, tb)) (rfS r ov av wv) ∧ RfS wz W.heap.size r z ov av wv σ (dkS p bb v2)) (fun _ _ _ _ h _ => h) (fun _ _ _ h k => by obtain ⟨v2, h1, h2⟩ := h; exact ⟨v2, h1.below k, h2.below k⟩) rfl (fun y1 hy1 hF1 hG1 => ⟨by go_simp, ?_⟩) ?_
  · have ht1 := HXq.out.butIn hy1
    rw [hkk.out]
    refine (dwrite_any y1 _ p bb z n c dv σ _ hG1.1 HTq.out.ok (by omega) hon (Nat.le_trans HTq.out.below.size hy1.size) k0 hkn ba bc tb ⟨ht1.text, fun q hq hm => ht1.out q hq (List.mem_append_left _ hm)⟩).mono ?_
    rintro e y2 ⟨rfl, b2, v2, d2, s2⟩
    exact ⟨_, rfl, ButIn.wide b2 (fun _ h => List.mem_append_left _ h), rfl, v2, d2, hG1.2.stay hG1.1 b2 s2⟩
  rintro v1 y4 hy4 hF4 rfl
  apply Exists.intro
  refine ⟨fun y3 hb3 hF3 => wpQuiet_nil rfl, ?_⟩
  refine FlowB.AlChk.nil ?_
  refine FlowB.Walk.call rfl 35 #[.pointer (some ⟨r, 0, none⟩), .int .i64 k, .slice ba z bc] (fun v _ => v = .int .i64 σ.co) (fun _ wz => ∃ v2 av2 wv2, DkS wz W.heap.size p bb z n v2 (σ.wr z (k0, tb)) (rfS r ov av2 wv2) ∧ RfS wz W.heap.size r z ov av2 wv2 (σ.wr z (k0, tb)) (dkS p bb v2)) (fun _ _ _ _ h _ => h) (fun _ _ _ h k => by obtain ⟨v2, a2, b2, h1, h2⟩ := h; exact ⟨v2, a2, b2, h1.below k, h2.below k⟩) rfl (fun y1 hy1 hF1 hG1 => ⟨by go_simp, ?_⟩) ?_
  · obtain ⟨v2, d2, r2⟩ := hG1
    rw [hkk.out]
    have ht1 := HXq.out.butIn hy1
    refine (rwrite_any y1 _ r z n c ov av wv σ _ r2 HTq.out.ok (by omega) z2 n1 hon k0 hkn ba bc tb ⟨ht1.text, fun q hq hm => ht1.out q hq (List.mem_append_right _ hm)⟩).mono ?_
    rintro e y2 ⟨rfl, b2, av2, wv2, q2, s2⟩
    exact ⟨_, rfl, ButIn.wide b2 (fun _ h => List.mem_append_right _ h), rfl, v2, av2, wv2, d2.stay r2 b2 s2, q2⟩
  rintro v2 y5 hy5 hF5 rfl
  apply Exists.intro
  refine ⟨fun y3 hb3 hF3 => ?_, ?_⟩
  · simp only [pick, List.getElem?_toArray, List.getElem?_cons_succ, List.getElem?_cons_zero, Option.toList_some, List.cons_append, List.nil_append, Act.put, List.setIfInBounds_toArray, List.set_cons_zero, List.set_cons_succ]
    repeat (first | go_big_quiet_step (fail))
    exact wpQuiet_nil rfl
  refine FlowB.AlChk.nil ?_
  refine FlowB.Walk.fin fun w9 h9 hF9 hG9 => ?_
  simp only [List.drop_succ_cons, List.drop_zero]
  obtain ⟨v2, av2, wv2, d9, q9⟩ := hG9
  have HZ := hid (show Two W w9 r p bb z n (c + 1) v2 ov av2 wv2 (σ.wr z (k0, tb)) from ⟨below_in HTq.out.below h9 (Nat.le_refl _) (fun q hq => by
      rcases List.mem_append.1 hq with h | h
      · exact (dkS_lt HTq.out.dk q h).1
      · exact (rfS_lt2 HTq.out.rf q h).1), d9, q9, HTq.out.ok.wr hon k0 hkn tb HXq.out.text.length, z1, z2, n1, n2, by omega⟩)
  clear h9 hF9 d9 q9
  go_wp2_with fail
  go_returns
  exact ⟨by first | rfl | simp, _, _, _, _, HZ.out⟩
end Go.Proofs.Ytmpgnpkodapidaa

namespace Go.Proofs.Ytmpgnpkodapidaa
open Go.ChangeShapes Go.WideShapes Go.ChangeAt Go.RowKit

/-- Of the blocks below a number none may change. -/
structure KeepB (B : Nat) (w w' : World) : Prop where
  os : w'.os = w.os
  tape : w'.tape = w.tape
  output : w'.output = w.output
  size : w.heap.size ≤ w'.heap.size
  block : ∀ k, k < w.heap.size → k < B → w'.heap[k]? = w.heap[k]?
theorem rel_keepB (B : Nat) : Rel (KeepB B) :=
  ⟨fun h => ⟨h.os, h.tape, h.output, h.size, fun k hk _ => h.block k hk⟩,
   fun h k => ⟨k.os.trans h.os, k.tape.trans h.tape, k.output.trans h.output, Nat.le_trans h.size k.size, fun j hj hB => by
     rw [k.block j (Nat.lt_of_lt_of_le hj h.size) hB, h.block j hj hB]⟩⟩
theorem KeepB.below {w w' : World} (h : KeepB w.heap.size w w') : Below w.heap.size w w' := ⟨h.os, h.tape, h.output, h.size, fun k hk => h.block k hk hk⟩
theorem KeepB.of_below {B : Nat} {w w' : World} (h : Below B w w') : KeepB B w w' := ⟨h.os, h.tape, h.output, h.size, fun k _ hB => h.block k hB⟩
set_option maxHeartbeats 4000000 in
set_option maxRecDepth 100000 in
theorem step_pad_off (W w : World) (r p bb z n c : Nat) (dv ov av wv : Value) (σ : PS) (hT : Two W w r p bb z n c dv ov av wv σ) (k : Int) (ba ka : Option Addr) (bl bc kc : Nat) (ks img : List Int) (hb0 : 0 < bl) (heven : Int.tmod k 2 = 0) (hbl : bl ≤ 600) (tb : List Int) (hB : TextAt W ba bl bc tb) (hon : σ.on = false) (hc : c < 800) :
    Calls Try.prog 13 #[.pointer (some ⟨p, 0, none⟩), .pointer (some ⟨r, 0, none⟩), .agg #[.int .i64 0, .int .i64 k, .slice ba bl bc, .slice ka ks.length kc], .string (strOfNums img)] w fun e w' => e = .returned (.tuple #[.string (strOfNums img), .bool true]) ∧ ∃ v2 av2 wv2 τ, Two W w' r p bb z n (c + 1) v2 ov av2 wv2 τ := by
  have Kv := hid (Blk.new (w := w) (n := w.heap.size) rfl #[.int .i64 0, .int .i64 k, .slice ba bl bc, .slice ka ks.length kc] 34)
  have bw := (Below.refl w.heap.size w).alloc (Nat.le_refl _) (.cells #[.int .i64 0, .int .i64 k, .slice ba bl bc, .slice ka ks.length kc] 34 (0, 0))
  have HT := hid (hT.on bw)
  have z1 := hT.z1
  have z2 := hT.z2
  have n1 := hT.n1
  have n2 := hT.n2
  have few := hT.few
  have hout := hid (show w.heap.size ∉ dkS p bb dv from fun q => Nat.lt_irrefl _ (dkS_lt hT.dk _ q).2)
  have hnin := hid (show w.heap.size ∉ dkS p bb dv ++ rfS r ov av wv from fun q => by
    rcases List.mem_append.1 q with h | h
    · exact Nat.lt_irrefl _ (dkS_lt hT.dk _ h).2
    · exact Nat.lt_irrefl _ (rfS_lt2 hT.rf _ h).2)
  clear hT bw
  have cv0 : (w.alloc (.cells #[.int .i64 0, .int .i64 k, .slice ba bl bc, .slice ka ks.length kc] 34 (0, 0))).cell? ⟨w.heap.size, 0, none⟩ = some (.int .i64 0) := by rw [Kv.out.cell]; rfl
  have cv1 : (w.alloc (.cells #[.int .i64 0, .int .i64 k, .slice ba bl bc, .slice ka ks.length kc] 34 (0, 0))).cell? ⟨w.heap.size, 1, none⟩ = some (.int .i64 k) := by rw [Kv.out.cell]; rfl
  have cv2 : (w.alloc (.cells #[.int .i64 0, .int .i64 k, .slice ba bl bc, .slice ka ks.length kc] 34 (0, 0))).cell? ⟨w.heap.size, 2, none⟩ = some (.slice ba bl bc) := by rw [Kv.out.cell]; rfl
  have cv3 : (w.alloc (.cells #[.int .i64 0, .int .i64 k, .slice ba bl bc, .slice ka ks.length kc] 34 (0, 0))).cell? ⟨w.heap.size, 3, none⟩ = some (.slice ka ks.length kc) := by rw [Kv.out.cell]; rfl
  have hb1 : (0 : Int) < (bl : Int) := by omega
  have hb2 : (Int.tmod k 2 == 0) = true := by simpa using heven
  go_enter Try.func13, Try.ntmps13
  go_wp2_with fail
  obtain ⟨left0, rk0, r0, -⟩ := HT.out.rf.ex
  have KR := hid r0.kr
  have HB0 := hid (hB.below HT.out.below)
  have hszq : w.heap.size < (w.alloc (.cells #[.int .i64 0, .int .i64 k, .slice ba bl bc, .slice ka ks.length kc] 34 (0, 0))).heap.size := Kv.out.lt
  clear r0 cv0 cv1 cv2 cv3
  generalize w.alloc (.cells #[.int .i64 0, .int .i64 k, .slice ba bl bc, .slice ka ks.length kc] 34 (0, 0)) = wq at *
  obtain ⟨i0, hi, hz0, hzz1, hzz2⟩ := info_parts info_byte
  have hl8 := hid (show (tb ++ List.replicate z (0 : Int)).length = bl + z by simp [hB.length])
  refine FlowB.wp_region_flow_in (rel_keepB wq.heap.size) (fun _ => True) 15 [1, 2, 4, 5, 6, 7, 9, 10, 11, 12] [] [(.c 0, [], []), (.c 3, [], []), (.c 8, [13, 14], [])] (by kernel_rfl) (by kernel_rfl) (fun _ h => h.size) trivial (fun _ _ _ _ => trivial) ?_
  apply Exists.intro
  refine ⟨fun w0 hb0 hF0 => ?_, ?_⟩
  · skip
    have y1 : ∀ w', (∃ x : Ext w0, w' = x.at_) → w'.cell? ⟨r, 0, none⟩ = some (.int .i64 (z : Int)) := fun w' ⟨x, hx⟩ => by rw [hx]; exact by rw [((KR.out.below hb0.below).below x.same).cell]; rfl
    have y2 : ∀ w', (∃ x : Ext w0, w' = x.at_) → w'.cell? ⟨w.heap.size, 2, none⟩ = some (.slice ba bl bc) := fun w' ⟨x, hx⟩ => by rw [hx]; exact by rw [((Kv.out.below hb0.below).below x.same).cell]; rfl
    simp only [pick, List.getElem?_toArray, List.getElem?_cons_succ, List.getElem?_cons_zero, Option.toList_some, List.cons_append, List.nil_append]
    repeat (first | (go_big_quiet_want; refine quiet_load_one 3 _ rfl ⟨r, 0, none⟩ rfl _ y1 _ Try.underlying3 rfl ?_; go_big_quiet_on; simp only [Act.put, List.setIfInBounds_toArray, List.set_cons_zero, List.set_cons_succ]) | (go_big_quiet_want; refine quiet_load_one 31 _ rfl ⟨w.heap.size, 2, none⟩ rfl _ y2 _ Try.underlying31 rfl ?_; go_big_quiet_on; simp only [Act.put, List.setIfInBounds_toArray, List.set_cons_zero, List.set_cons_succ]) | go_big_quiet_step (fail))
    exact wpQuiet_nil rfl
  refine FlowB.AlChk.nil ?_
  refine FlowB.Walk.does rfl (fun _ _ => True) (fun v y => OwnB y wq.heap.size 5 v []) (fun _ _ _ _ h _ => h) (fun _ _ _ h k => h.below k) rfl (fun y hy hF hG => ?_) ?_
  · exact ⟨.slice (some ⟨y.heap.size, 0, none⟩) 0 0, y.alloc (.cells #[] 5), by go_simp, (rel_keepB _).of ((Below.refl _ _).alloc (Nat.le_refl _) _), trivial, OwnB.of_blk (bs := []) (n := 0) (Blk.new (w := y) rfl #[] 5) hy.size rfl (by omega) (by simp)⟩
  rintro v0 y0 hy0 hF0 -
  apply Exists.intro
  refine ⟨fun y3 hb3 hF3 => wpQuiet_nil rfl, ?_⟩
  refine FlowB.AlChk.nil ?_
  refine FlowB.Walk.does rfl (fun _ _ => True) (fun v y => OwnB y wq.heap.size 5 v tb) (fun _ _ _ _ h _ => h) (fun _ _ _ h k => h.below k) rfl (fun y hy hF hG => ?_) ?_
  · obtain ⟨v', y', hr, q2, q3, q4⟩ := run_append_text (P := Try.prog) 31 Try.underlying31 hi hz0 hzz1 hzz2 hG (HB0.out.below hy.below) (by simp; omega) hy.size
    exact ⟨v', y', FlowB.exec_append rfl rfl rfl hr, KeepB.of_below q4, trivial, by simpa using q2⟩
  rintro v3 y3 hy3 hF3 -
  apply Exists.intro
  refine ⟨fun y4 hb4 hF4 => wpQuiet_nil rfl, ?_⟩
  refine FlowB.AlChk.nil ?_
  refine FlowB.Walk.does rfl (fun v _ => ∃ a c, v = .slice a (bl + z) c ∧ z ≤ c) (fun v y => ∃ a c, v = .slice a (bl + z) c ∧ TextAt y a (bl + z) c (tb ++ List.replicate z 0) ∧ ∀ q : Addr, a = some q → wq.heap.size ≤ q.block) (fun _ _ _ _ h _ => h) (fun _ _ _ h k => by obtain ⟨a, c, h1, h2, h3⟩ := h; exact ⟨a, c, h1, h2.below k, h3⟩) rfl (fun y hy hF hG => ?_) ?_
  · obtain ⟨v', y', hr, q2, q3, q4⟩ := run_append_zeros (P := Try.prog) 31 Try.underlying31 Try.underlying3 hi hz0 hzz1 hzz2 hG z (by have := hB.length; omega) hy.size
    obtain ⟨a, c, rfl, t, o⟩ := q2.text2
    rw [hl8.out] at t hr
    have hle := t.le
    exact ⟨.slice a (bl + z) c, y', FlowB.exec_append rfl rfl rfl hr, KeepB.of_below q4, ⟨a, c, rfl, by omega⟩, a, c, rfl, t, fun q hq => (o q hq).1⟩
  rintro v8 y8 hy8 hF8 ⟨a8, c8, rfl, hc8⟩
  apply Exists.intro
  refine ⟨fun y4 hb4 hF4 => ?_, ?_⟩
  · simp only [pick, List.getElem?_toArray, List.getElem?_cons_succ, List.getElem?_cons_zero, Option.toList_some, List.cons_append, List.nil_append, Act.put, List.setIfInBounds_toArray, List.set_cons_zero, List.set_cons_succ]
    repeat (first | (go_big_quiet_want; refine quiet_cut_hn _ _ rfl a8 (bl + z) c8 z _ rfl _ rfl rfl rfl hc8 ?_; go_big_quiet_on; simp only [Act.put, List.setIfInBounds_toArray, List.set_cons_zero, List.set_cons_succ]) | go_big_quiet_step (fail))
    exact wpQuiet_nil rfl
  refine FlowB.AlChk.nil ?_
  refine FlowB.Walk.fin fun w5 h5 hF5 hG5 => ?_
  simp only [List.drop_succ_cons, List.drop_zero]
  obtain ⟨a9, c9, he9, t9, o9⟩ := hG5
  cases he9
  have HTq := hid (HT.out.on h5.below)
  have Kq := hid (Kv.out.below h5.below)
  have HXq := hid (TextO.mk (S := dkS p bb dv ++ rfS r ov av wv) (t9.headT z (by omega)) (fun q hq hm => by
    have h1 := o9 q hq
    rcases List.mem_append.1 hm with h | h
    · have := (dkS_lt HT.out.dk _ h).2
      omega
    · have := (rfS_lt2 HT.out.rf _ h).2
      omega))
  have HP : Hid ((tb ++ List.replicate z (0 : Int)).take z = padZ z tb) := hid rfl
  rw [HP.out] at HXq
  generalize padZ z tb = tp at *
  have g1 : w5.cell? ⟨w.heap.size, 1, none⟩ = some (.int .i64 k) := by rw [Kq.out.cell]; rfl
  clear h5 hF5 t9 o9 hF8 hy8 hy0 hF0 hF3 hy3 HT
  go_wp2_with fail
  refine FlowB.wp_region_butIn (dkS p bb dv ++ rfS r ov av wv) (fun wz => DkS wz W.heap.size p bb z n dv σ (rfS r ov av wv) ∧ RfS wz W.heap.size r z ov av wv σ (dkS p bb dv)) 14 [0, 1, 2, 3, 4, 6, 7, 8, 9] [] [(.c 5, [], []), (.c 10, [11, 12, 13], [])] (by kernel_rfl) (by kernel_rfl) ⟨HTq.out.dk, HTq.out.rf⟩ (fun _ _ h hb => ⟨h.1.below hb, h.2.below hb⟩) ?_
  apply Exists.intro
  refine ⟨fun w0 hb0 hF0 => ?_, ?_⟩
  · skip
    have y1 : ∀ w', (∃ x : Ext w0, w' = x.at_) → w'.cell? ⟨w.heap.size, 1, none⟩ = some (.int .i64 k) := fun w' ⟨x, hx⟩ => by rw [hx, ((hb0.blk Kq.out hnin.out).below x.same).cell]; rfl
    simp only [pick, List.getElem?_toArray, List.getElem?_cons_succ, List.getElem?_cons_zero, Option.toList_some, List.cons_append, List.nil_append]
    repeat (first | (go_big_quiet_want; refine quiet_load_one 3 _ rfl ⟨w.heap.size, 1, none⟩ rfl _ y1 _ Try.underlying3 rfl ?_; go_big_quiet_on; simp only [Act.put, List.setIfInBounds_toArray, List.set_cons_zero, List.set_cons_succ]) | go_big_quiet_step (fail))
    exact wpQuiet_nil rfl
  refine FlowB.AlChk.nil ?_
  refine FlowB.Walk.call rfl 16 #[.pointer (some ⟨p, 0, none⟩), .int .i64 k, .slice a8 z c8] (fun v _ => v = .int .i64 9) (fun _ wz => DkS wz W.heap.size p bb z n dv σ (rfS r ov av wv) ∧ RfS wz W.heap.size r z ov av wv σ (dkS p bb dv)) (fun _ _ _ _ h _ => h) (fun _ _ _ h k => ⟨h.1.below k, h.2.below k⟩) rfl (fun y1 hy1 hF1 hG1 => ⟨by go_simp, ?_⟩) ?_
  · obtain ⟨set, af, kv, d1, -⟩ := hG1.1.ex
    rw [hon] at d1
    refine (write_off y1 p bb z n _ dv set af kv d1 k _).mono ?_
    rintro e y2 ⟨rfl, b2⟩
    exact ⟨_, rfl, ButIn.of_below b2, rfl, hG1.1.below b2, hG1.2.below b2⟩
  rintro v1 y4 hy4 hF4 rfl
  apply Exists.intro
  refine ⟨fun y3 hb3 hF3 => wpQuiet_nil rfl, ?_⟩
  refine FlowB.AlChk.nil ?_
  refine FlowB.Walk.call rfl 35 #[.pointer (some ⟨r, 0, none⟩), .int .i64 k, .slice a8 z c8] (fun v _ => v = .int .i64 9) (fun _ wz => DkS wz W.heap.size p bb z n dv σ (rfS r ov av wv) ∧ RfS wz W.heap.size r z ov av wv σ (dkS p bb dv)) (fun _ _ _ _ h _ => h) (fun _ _ _ h k => ⟨h.1.below k, h.2.below k⟩) rfl (fun y1 hy1 hF1 hG1 => ⟨by go_simp, ?_⟩) ?_
  · obtain ⟨left, rk, r1, -⟩ := hG1.2.ex
    rw [hon] at r1
    refine (refwrite_off y1 _ r z ov av wv _ _ left rk r1 k _).mono ?_
    rintro e y2 ⟨rfl, b2⟩
    exact ⟨_, rfl, ButIn.of_below b2, rfl, hG1.1.below b2, hG1.2.below b2⟩
  rintro v2 y5 hy5 hF5 rfl
  apply Exists.intro
  refine ⟨fun y3 hb3 hF3 => ?_, ?_⟩
  · simp only [pick, List.getElem?_toArray, List.getElem?_cons_succ, List.getElem?_cons_zero, Option.toList_some, List.cons_append, List.nil_append, Act.put, List.setIfInBounds_toArray, List.set_cons_zero, List.set_cons_succ]
    repeat (first | go_big_quiet_step (fail))
    exact wpQuiet_nil rfl
  refine FlowB.AlChk.nil ?_
  refine FlowB.Walk.fin fun w9 h9 hF9 hG9 => ?_
  simp only [List.drop_succ_cons, List.drop_zero]
  have HZ := hid (show Two W w9 r p bb z n (c + 1) dv ov av wv σ from ⟨below_in HTq.out.below h9 (Nat.le_refl _) (fun q hq => by
      rcases List.mem_append.1 hq with h | h
      · exact (dkS_lt HTq.out.dk q h).1
      · exact (rfS_lt2 HTq.out.rf q h).1), hG9.1, hG9.2, HTq.out.ok.up, z1, z2, n1, n2, by omega⟩)
  clear h9 hF9 hG9
  go_wp2_with fail
  go_returns
  exact ⟨by first | rfl | simp, _, _, _, _, HZ.out⟩
set_option maxHeartbeats 4000000 in
set_option maxRecDepth 100000 in
theorem step_pad_bad (W w : World) (r p bb z n c : Nat) (dv ov av wv : Value) (σ : PS) (hT : Two W w r p bb z n c dv ov av wv σ) (k : Int) (ba ka : Option Addr) (bl bc kc : Nat) (ks img : List Int) (hb0 : 0 < bl) (heven : Int.tmod k 2 = 0) (hbl : bl ≤ 600) (tb : List Int) (hB : TextAt W ba bl bc tb) (hon : σ.on = true) (hbd : k < 0 ∨ (n : Int) ≤ k) (hc : c < 800) :
    Calls Try.prog 13 #[.pointer (some ⟨p, 0, none⟩), .pointer (some ⟨r, 0, none⟩), .agg #[.int .i64 0, .int .i64 k, .slice ba bl bc, .slice ka ks.length kc], .string (strOfNums img)] w fun e w' => e = .returned (.tuple #[.string (strOfNums img), .bool true]) ∧ ∃ v2 av2 wv2 τ, Two W w' r p bb z n (c + 1) v2 ov av2 wv2 τ := by
  have Kv := hid (Blk.new (w := w) (n := w.heap.size) rfl #[.int .i64 0, .int .i64 k, .slice ba bl bc, .slice ka ks.length kc] 34)
  have bw := (Below.refl w.heap.size w).alloc (Nat.le_refl _) (.cells #[.int .i64 0, .int .i64 k, .slice ba bl bc, .slice ka ks.length kc] 34 (0, 0))
  have HT := hid (hT.on bw)
  have z1 := hT.z1
  have z2 := hT.z2
  have n1 := hT.n1
  have n2 := hT.n2
  have few := hT.few
  have hout := hid (show w.heap.size ∉ dkS p bb dv from fun q => Nat.lt_irrefl _ (dkS_lt hT.dk _ q).2)
  have hnin := hid (show w.heap.size ∉ dkS p bb dv ++ rfS r ov av wv from fun q => by
    rcases List.mem_append.1 q with h | h
    · exact Nat.lt_irrefl _ (dkS_lt hT.dk _ h).2
    · exact Nat.lt_irrefl _ (rfS_lt2 hT.rf _ h).2)
  clear hT bw
  have cv0 : (w.alloc (.cells #[.int .i64 0, .int .i64 k, .slice ba bl bc, .slice ka ks.length kc] 34 (0, 0))).cell? ⟨w.heap.size, 0, none⟩ = some (.int .i64 0) := by rw [Kv.out.cell]; rfl
  have cv1 : (w.alloc (.cells #[.int .i64 0, .int .i64 k, .slice ba bl bc, .slice ka ks.length kc] 34 (0, 0))).cell? ⟨w.heap.size, 1, none⟩ = some (.int .i64 k) := by rw [Kv.out.cell]; rfl
  have cv2 : (w.alloc (.cells #[.int .i64 0, .int .i64 k, .slice ba bl bc, .slice ka ks.length kc] 34 (0, 0))).cell? ⟨w.heap.size, 2, none⟩ = some (.slice ba bl bc) := by rw [Kv.out.cell]; rfl
  have cv3 : (w.alloc (.cells #[.int .i64 0, .int .i64 k, .slice ba bl bc, .slice ka ks.length kc] 34 (0, 0))).cell? ⟨w.heap.size, 3, none⟩ = some (.slice ka ks.length kc) := by rw [Kv.out.cell]; rfl
  have hb1 : (0 : Int) < (bl : Int) := by omega
  have hb2 : (Int.tmod k 2 == 0) = true := by simpa using heven
  have hbad := hid (show k < 0 ∨ (n : Int) ≤ k ∨ z ≠ z from hbd.imp id .inl)
  clear hbd
  go_enter Try.func13, Try.ntmps13
  go_wp2_with fail
  obtain ⟨left0, rk0, r0, -⟩ := HT.out.rf.ex
  have KR := hid r0.kr
  have HB0 := hid (hB.below HT.out.below)
  have hszq : w.heap.size < (w.alloc (.cells #[.int .i64 0, .int .i64 k, .slice ba bl bc, .slice ka ks.length kc] 34 (0, 0))).heap.size := Kv.out.lt
  clear r0 cv0 cv1 cv2 cv3
  generalize w.alloc (.cells #[.int .i64 0, .int .i64 k, .slice ba bl bc, .slice ka ks.length kc] 34 (0, 0)) = wq at *
  obtain ⟨i0, hi, hz0, hzz1, hzz2⟩ := info_parts info_byte
  have hl8 := hid (show (tb ++ List.replicate z (0 : Int)).length = bl + z by simp [hB.length])
  refine FlowB.wp_region_flow_in (rel_keepB wq.heap.size) (fun _ => True) 15 [1, 2, 4, 5, 6, 7, 9, 10, 11, 12] [] [(.c 0, [], []), (.c 3, [], []), (.c 8, [13, 14], [])] (by kernel_rfl) (by kernel_rfl) (fun _ h => h.size) trivial (fun _ _ _ _ => trivial) ?_
  apply Exists.intro
  refine ⟨fun w0 hb0 hF0 => ?_, ?_⟩
  · skip
    have y1 : ∀ w', (∃ x : Ext w0, w' = x.at_) → w'.cell? ⟨r, 0, none⟩ = some (.int .i64 (z : Int)) := fun w' ⟨x, hx⟩ => by rw [hx]; exact by rw [((KR.out.below hb0.below).below x.same).cell]; rfl
    have y2 : ∀ w', (∃ x : Ext w0, w' = x.at_) → w'.cell? ⟨w.heap.size, 2, none⟩ = some (.slice ba bl bc) := fun w' ⟨x, hx⟩ => by rw [hx]; exact by rw [((Kv.out.below hb0.below).below x.same).cell]; rfl
    simp only [pick, List.getElem?_toArray, List.getElem?_cons_succ, List.getElem?_cons_zero, Option.toList_some, List.cons_append, List.nil_append]
    repeat (first | (go_big_quiet_want; refine quiet_load_one 3 _ rfl ⟨r, 0, none⟩ rfl _ y1 _ Try.underlying3 rfl ?_; go_big_quiet_on; simp only [Act.put, List.setIfInBounds_toArray, List.set_cons_zero, List.set_cons_succ]) | (go_big_quiet_want; refine quiet_load_one 31 _ rfl ⟨w.heap.size, 2, none⟩ rfl _ y2 _ Try.underlying31 rfl ?_; go_big_quiet_on; simp only [Act.put, List.setIfInBounds_toArray, List.set_cons_zero, List.set_cons_succ]) | go_big_quiet_step (fail))
    exact wpQuiet_nil rfl
  refine FlowB.AlChk.nil ?_
  refine FlowB.Walk.does rfl (fun _ _ => True) (fun v y => OwnB y wq.heap.size 5 v []) (fun _ _ _ _ h _ => h) (fun _ _ _ h k => h.below k) rfl (fun y hy hF hG => ?_) ?_
  · exact ⟨.slice (some ⟨y.heap.size, 0, none⟩) 0 0, y.alloc (.cells #[] 5), by go_simp, (rel_keepB _).of ((Below.refl _ _).alloc (Nat.le_refl _) _), trivial, OwnB.of_blk (bs := []) (n := 0) (Blk.new (w := y) rfl #[] 5) hy.size rfl (by omega) (by simp)⟩
  rintro v0 y0 hy0 hF0 -
  apply Exists.intro
  refine ⟨fun y3 hb3 hF3 => wpQuiet_nil rfl, ?_⟩
  refine FlowB.AlChk.nil ?_
  refine FlowB.Walk.does rfl (fun _ _ => True) (fun v y => OwnB y wq.heap.size 5 v tb) (fun _ _ _ _ h _ => h) (fun _ _ _ h k => h.below k) rfl (fun y hy hF hG => ?_) ?_
  · obtain ⟨v', y', hr, q2, q3, q4⟩ := run_append_text (P := Try.prog) 31 Try.underlying31 hi hz0 hzz1 hzz2 hG (HB0.out.below hy.below) (by simp; omega) hy.size
    exact ⟨v', y', FlowB.exec_append rfl rfl rfl hr, KeepB.of_below q4, trivial, by simpa using q2⟩
  rintro v3 y3 hy3 hF3 -
  apply Exists.intro
  refine ⟨fun y4 hb4 hF4 => wpQuiet_nil rfl, ?_⟩
  refine FlowB.AlChk.nil ?_
  refine FlowB.Walk.does rfl (fun v _ => ∃ a c, v = .slice a (bl + z) c ∧ z ≤ c) (fun v y => ∃ a c, v = .slice a (bl + z) c ∧ TextAt y a (bl + z) c (tb ++ List.replicate z 0) ∧ ∀ q : Addr, a = some q → wq.heap.size ≤ q.block) (fun _ _ _ _ h _ => h) (fun _ _ _ h k => by obtain ⟨a, c, h1, h2, h3⟩ := h; exact ⟨a, c, h1, h2.below k, h3⟩) rfl (fun y hy hF hG => ?_) ?_
  · obtain ⟨v', y', hr, q2, q3, q4⟩ := run_append_zeros (P := Try.prog) 31 Try.underlying31 Try.underlying3 hi hz0 hzz1 hzz2 hG z (by have := hB.length; omega) hy.size
    obtain ⟨a, c, rfl, t, o⟩ := q2.text2
    rw [hl8.out] at t hr
    have hle := t.le
    exact ⟨.slice a (bl + z) c, y', FlowB.exec_append rfl rfl rfl hr, KeepB.of_below q4, ⟨a, c, rfl, by omega⟩, a, c, rfl, t, fun q hq => (o q hq).1⟩
  rintro v8 y8 hy8 hF8 ⟨a8, c8, rfl, hc8⟩
  apply Exists.intro
  refine ⟨fun y4 hb4 hF4 => ?_, ?_⟩
  · simp only [pick, List.getElem?_toArray, List.getElem?_cons_succ, List.getElem?_cons_zero, Option.toList_some, List.cons_append, List.nil_append, Act.put, List.setIfInBounds_toArray, List.set_cons_zero, List.set_cons_succ]
    repeat (first | (go_big_quiet_want; refine quiet_cut_hn _ _ rfl a8 (bl + z) c8 z _ rfl _ rfl rfl rfl hc8 ?_; go_big_quiet_on; simp only [Act.put, List.setIfInBounds_toArray, List.set_cons_zero, List.set_cons_succ]) | go_big_quiet_step (fail))
    exact wpQuiet_nil rfl
  refine FlowB.AlChk.nil ?_
  refine FlowB.Walk.fin fun w5 h5 hF5 hG5 => ?_
  simp only [List.drop_succ_cons, List.drop_zero]
  obtain ⟨a9, c9, he9, t9, o9⟩ := hG5
  cases he9
  have HTq := hid (HT.out.on h5.below)
  have Kq := hid (Kv.out.below h5.below)
  have HXq := hid (TextO.mk (S := dkS p bb dv ++ rfS r ov av wv) (t9.headT z (by omega)) (fun q hq hm => by
    have h1 := o9 q hq
    rcases List.mem_append.1 hm with h | h
    · have := (dkS_lt HT.out.dk _ h).2
      omega
    · have := (rfS_lt2 HT.out.rf _ h).2
      omega))
  have HP : Hid ((tb ++ List.replicate z (0 : Int)).take z = padZ z tb) := hid rfl
  rw [HP.out] at HXq
  generalize padZ z tb = tp at *
  have g1 : w5.cell? ⟨w.heap.size, 1, none⟩ = some (.int .i64 k) := by rw [Kq.out.cell]; rfl
  clear h5 hF5 t9 o9 hF8 hy8 hy0 hF0 hF3 hy3 HT
  go_wp2_with fail
  refine FlowB.wp_region_butIn (dkS p bb dv ++ rfS r ov av wv) (fun wz => DkS wz W.heap.size p bb z n dv σ (rfS r ov av wv) ∧ RfS wz W.heap.size r z ov av wv σ (dkS p bb dv)) 14 [0, 1, 2, 3, 4, 6, 7, 8, 9] [] [(.c 5, [], []), (.c 10, [11, 12, 13], [])] (by kernel_rfl) (by kernel_rfl) ⟨HTq.out.dk, HTq.out.rf⟩ (fun _ _ h hb => ⟨h.1.below hb, h.2.below hb⟩) ?_
  apply Exists.intro
  refine ⟨fun w0 hb0 hF0 => ?_, ?_⟩
  · skip
    have y1 : ∀ w', (∃ x : Ext w0, w' = x.at_) → w'.cell? ⟨w.heap.size, 1, none⟩ = some (.int .i64 k) := fun w' ⟨x, hx⟩ => by rw [hx, ((hb0.blk Kq.out hnin.out).below x.same).cell]; rfl
    simp only [pick, List.getElem?_toArray, List.getElem?_cons_succ, List.getElem?_cons_zero, Option.toList_some, List.cons_append, List.nil_append]
    repeat (first | (go_big_quiet_want; refine quiet_load_one 3 _ rfl ⟨w.heap.size, 1, none⟩ rfl _ y1 _ Try.underlying3 rfl ?_; go_big_quiet_on; simp only [Act.put, List.setIfInBounds_toArray, List.set_cons_zero, List.set_cons_succ]) | go_big_quiet_step (fail))
    exact wpQuiet_nil rfl
  refine FlowB.AlChk.nil ?_
  refine FlowB.Walk.call rfl 16 #[.pointer (some ⟨p, 0, none⟩), .int .i64 k, .slice a8 z c8] (fun v _ => v = .int .i64 1) (fun _ wz => DkS wz W.heap.size p bb z n dv σ (rfS r ov av wv) ∧ RfS wz W.heap.size r z ov av wv σ (dkS p bb dv)) (fun _ _ _ _ h _ => h) (fun _ _ _ h k => ⟨h.1.below k, h.2.below k⟩) rfl (fun y1 hy1 hF1 hG1 => ⟨by go_simp, ?_⟩) ?_
  · obtain ⟨set, af, kv, d1, -⟩ := hG1.1.ex
    rw [hon] at d1
    refine (write_bad y1 p bb z n _ dv set af kv d1 k a8 z c8 hbad.out).mono ?_
    rintro e y2 ⟨rfl, b2⟩
    exact ⟨_, rfl, ButIn.of_below b2, rfl, hG1.1.below b2, hG1.2.below b2⟩
  rintro v1 y4 hy4 hF4 rfl
  apply Exists.intro
  refine ⟨fun y3 hb3 hF3 => wpQuiet_nil rfl, ?_⟩
  refine FlowB.AlChk.nil ?_
  refine FlowB.Walk.call rfl 35 #[.pointer (some ⟨r, 0, none⟩), .int .i64 k, .slice a8 z c8] (fun v _ => v = .int .i64 1) (fun _ wz => DkS wz W.heap.size p bb z n dv σ (rfS r ov av wv) ∧ RfS wz W.heap.size r z ov av wv σ (dkS p bb dv)) (fun _ _ _ _ h _ => h) (fun _ _ _ h k => ⟨h.1.below k, h.2.below k⟩) rfl (fun y1 hy1 hF1 hG1 => ⟨by go_simp, ?_⟩) ?_
  · obtain ⟨left, rk, r1, -⟩ := hG1.2.ex
    rw [hon] at r1
    refine (refwrite_bad y1 _ r z ov av wv _ _ left rk r1 (by rw [HTq.out.ok.len]; omega) k a8 z c8 (by rw [HTq.out.ok.len]; exact hbad.out)).mono ?_
    rintro e y2 ⟨rfl, b2⟩
    exact ⟨_, rfl, ButIn.of_below b2, rfl, hG1.1.below b2, hG1.2.below b2⟩
  rintro v2 y5 hy5 hF5 rfl
  apply Exists.intro
  refine ⟨fun y3 hb3 hF3 => ?_, ?_⟩
  · simp only [pick, List.getElem?_toArray, List.getElem?_cons_succ, List.getElem?_cons_zero, Option.toList_some, List.cons_append, List.nil_append, Act.put, List.setIfInBounds_toArray, List.set_cons_zero, List.set_cons_succ]
    repeat (first | go_big_quiet_step (fail))
    exact wpQuiet_nil rfl
  refine FlowB.AlChk.nil ?_
  refine FlowB.Walk.fin fun w9 h9 hF9 hG9 => ?_
  simp only [List.drop_succ_cons, List.drop_zero]
  have HZ := hid (show Two W w9 r p bb z n (c + 1) dv ov av wv σ from ⟨below_in HTq.out.below h9 (Nat.le_refl _) (fun q hq => by
      rcases List.mem_append.1 hq with h | h
      · exact (dkS_lt HTq.out.dk q h).1
      · exact (rfS_lt2 HTq.out.rf q h).1), hG9.1, hG9.2, HTq.out.ok.up, z1, z2, n1, n2, by omega⟩)
  clear h9 hF9 hG9
  go_wp2_with fail
  go_returns
  exact ⟨by first | rfl | simp, _, _, _, _, HZ.out⟩
set_option maxHeartbeats 4000000 in
set_option maxRecDepth 100000 in
theorem step_pad (W w : World) (r p bb z n c : Nat) (dv ov av wv : Value) (σ : PS) (hT : Two W w r p bb z n c dv ov av wv σ) (k : Int) (ba ka : Option Addr) (bl bc kc k0 : Nat) (ks img : List Int) (hb0 : 0 < bl) (heven : Int.tmod k 2 = 0) (hbl : bl ≤ 600) (tb : List Int) (hB : TextAt W ba bl bc tb) (hon : σ.on = true) (hk0 : k = (k0 : Int)) (hkn : k0 < n) (hc : c < 800) :
    Calls Try.prog 13 #[.pointer (some ⟨p, 0, none⟩), .pointer (some ⟨r, 0, none⟩), .agg #[.int .i64 0, .int .i64 k, .slice ba bl bc, .slice ka ks.length kc], .string (strOfNums img)] w fun e w' => e = .returned (.tuple #[.string (strOfNums img), .bool true]) ∧ ∃ v2 av2 wv2 τ, Two W w' r p bb z n (c + 1) v2 ov av2 wv2 τ := by
  have Kv := hid (Blk.new (w := w) (n := w.heap.size) rfl #[.int .i64 0, .int .i64 k, .slice ba bl bc, .slice ka ks.length kc] 34)
  have bw := (Below.refl w.heap.size w).alloc (Nat.le_refl _) (.cells #[.int .i64 0, .int .i64 k, .slice ba bl bc, .slice ka ks.length kc] 34 (0, 0))
  have HT := hid (hT.on bw)
  have z1 := hT.z1
  have z2 := hT.z2
  have n1 := hT.n1
  have n2 := hT.n2
  have few := hT.few
  have hout := hid (show w.heap.size ∉ dkS p bb dv from fun q => Nat.lt_irrefl _ (dkS_lt hT.dk _ q).2)
  have hnin := hid (show w.heap.size ∉ dkS p bb dv ++ rfS r ov av wv from fun q => by
    rcases List.mem_append.1 q with h | h
    · exact Nat.lt_irrefl _ (dkS_lt hT.dk _ h).2
    · exact Nat.lt_irrefl _ (rfS_lt2 hT.rf _ h).2)
  clear hT bw
  have cv0 : (w.alloc (.cells #[.int .i64 0, .int .i64 k, .slice ba bl bc, .slice ka ks.length kc] 34 (0, 0))).cell? ⟨w.heap.size, 0, none⟩ = some (.int .i64 0) := by rw [Kv.out.cell]; rfl
  have cv1 : (w.alloc (.cells #[.int .i64 0, .int .i64 k, .slice ba bl bc, .slice ka ks.length kc] 34 (0, 0))).cell? ⟨w.heap.size, 1, none⟩ = some (.int .i64 k) := by rw [Kv.out.cell]; rfl
  have cv2 : (w.alloc (.cells #[.int .i64 0, .int .i64 k, .slice ba bl bc, .slice ka ks.length kc] 34 (0, 0))).cell? ⟨w.heap.size, 2, none⟩ = some (.slice ba bl bc) := by rw [Kv.out.cell]; rfl
  have cv3 : (w.alloc (.cells #[.int .i64 0, .int .i64 k, .slice ba bl bc, .slice ka ks.length kc] 34 (0, 0))).cell? ⟨w.heap.size, 3, none⟩ = some (.slice ka ks.length kc) := by rw [Kv.out.cell]; rfl
  have hb1 : (0 : Int) < (bl : Int) := by omega
  have hb2 : (Int.tmod k 2 == 0) = true := by simpa using heven
  have hkk := hid hk0
  clear hk0
  go_enter Try.func13, Try.ntmps13
  go_wp2_with fail
  obtain ⟨left0, rk0, r0, -⟩ := HT.out.rf.ex
  have KR := hid r0.kr
  have HB0 := hid (hB.below HT.out.below)
  have hszq : w.heap.size < (w.alloc (.cells #[.int .i64 0, .int .i64 k, .slice ba bl bc, .slice ka ks.length kc] 34 (0, 0))).heap.size := Kv.out.lt
  clear r0 cv0 cv1 cv2 cv3
  generalize w.alloc (.cells #[.int .i64 0, .int .i64 k, .slice ba bl bc, .slice ka ks.length kc] 34 (0, 0)) = wq at *
  obtain ⟨i0, hi, hz0, hzz1, hzz2⟩ := info_parts info_byte
  have hl8 := hid (show (tb ++ List.replicate z (0 : Int)).length = bl + z by simp [hB.length])
  refine FlowB.wp_region_flow_in (rel_keepB wq.heap.size) (fun _ => True) 15 [1, 2, 4, 5, 6, 7, 9, 10, 11, 12] [] [(.c 0, [], []), (.c 3, [], []), (.c 8, [13, 14], [])] (by kernel_rfl) (by kernel_rfl) (fun _ h => h.size) trivial (fun _ _ _ _ => trivial) ?_
  apply Exists.intro
  refine ⟨fun w0 hb0 hF0 => ?_, ?_⟩
  · skip
    have y1 : ∀ w', (∃ x : Ext w0, w' = x.at_) → w'.cell? ⟨r, 0, none⟩ = some (.int .i64 (z : Int)) := fun w' ⟨x, hx⟩ => by rw [hx]; exact by rw [((KR.out.below hb0.below).below x.same).cell]; rfl
    have y2 : ∀ w', (∃ x : Ext w0, w' = x.at_) → w'.cell? ⟨w.heap.size, 2, none⟩ = some (.slice ba bl bc) := fun w' ⟨x, hx⟩ => by rw [hx]; exact by rw [((Kv.out.below hb0.below).below x.same).cell]; rfl
    simp only [pick, List.getElem?_toArray, List.getElem?_cons_succ, List.getElem?_cons_zero, Option.toList_some, List.cons_append, List.nil_append]
    repeat (first | (go_big_quiet_want; refine quiet_load_one 3 _ rfl ⟨r, 0, none⟩ rfl _ y1 _ Try.underlying3 rfl ?_; go_big_quiet_on; simp only [Act.put, List.setIfInBounds_toArray, List.set_cons_zero, List.set_cons_succ]) | (go_big_quiet_want; refine quiet_load_one 31 _ rfl ⟨w.heap.size, 2, none⟩ rfl _ y2 _ Try.underlying31 rfl ?_; go_big_quiet_on; simp only [Act.put, List.setIfInBounds_toArray, List.set_cons_zero, List.set_cons_succ]) | go_big_quiet_step (fail))
    exact wpQuiet_nil rfl
  refine FlowB.AlChk.nil ?_
  refine FlowB.Walk.does rfl (fun _ _ => True) (fun v y => OwnB y wq.heap.size 5 v []) (fun _ _ _ _ h _ => h) (fun _ _ _ h k => h.below k) rfl (fun y hy hF hG => ?_) ?_
  · exact ⟨.slice (some ⟨y.heap.size, 0, none⟩) 0 0, y.alloc (.cells #[] 5), by go_simp, (rel_keepB _).of ((Below.refl _ _).alloc (Nat.le_refl _) _), trivial, OwnB.of_blk (bs := []) (n := 0) (Blk.new (w := y) rfl #[] 5) hy.size rfl (by omega) (by simp)⟩
  rintro v0 y0 hy0 hF0 -
  apply Exists.intro
  refine ⟨fun y3 hb3 hF3 => wpQuiet_nil rfl, ?_⟩
  refine FlowB.AlChk.nil ?_
  refine FlowB.Walk.does rfl (fun _ _ => True) (fun v y => OwnB y wq.heap.size 5 v tb) (fun _ _ _ _ h _ => h) (fun _ _ _ h k => h.below k) rfl (fun y hy hF hG => ?_) ?_
  · obtain ⟨v', y', hr, q2, q3, q4⟩ := run_append_text (P := Try.prog) 31 Try.underlying31 hi hz0 hzz1 hzz2 hG (HB0.out.below hy.below) (by simp; omega) hy.size
    exact ⟨v', y', FlowB.exec_append rfl rfl rfl hr, KeepB.of_below q4, trivial, by simpa using q2⟩
  rintro v3 y3 hy3 hF3 -
  apply Exists.intro
  refine ⟨fun y4 hb4 hF4 => wpQuiet_nil rfl, ?_⟩
  refine FlowB.AlChk.nil ?_
  refine FlowB.Walk.does rfl (fun v _ => ∃ a c, v = .slice a (bl + z) c ∧ z ≤ c) (fun v y => ∃ a c, v = .slice a (bl + z) c ∧ TextAt y a (bl + z) c (tb ++ List.replicate z 0) ∧ ∀ q : Addr, a = some q → wq.heap.size ≤ q.block) (fun _ _ _ _ h _ => h) (fun _ _ _ h k => by obtain ⟨a, c, h1, h2, h3⟩ := h; exact ⟨a, c, h1, h2.below k, h3⟩) rfl (fun y hy hF hG => ?_) ?_
  · obtain ⟨v', y', hr, q2, q3, q4⟩ := run_append_zeros (P := Try.prog) 31 Try.underlying31 Try.underlying3 hi hz0 hzz1 hzz2 hG z (by have := hB.length; omega) hy.size
    obtain ⟨a, c, rfl, t, o⟩ := q2.text2
    rw [hl8.out] at t hr
    have hle := t.le
    exact ⟨.slice a (bl + z) c, y', FlowB.exec_append rfl rfl rfl hr, KeepB.of_below q4, ⟨a, c, rfl, by omega⟩, a, c, rfl, t, fun q hq => (o q hq).1⟩
  rintro v8 y8 hy8 hF8 ⟨a8, c8, rfl, hc8⟩
  apply Exists.intro
  refine ⟨fun y4 hb4 hF4 => ?_, ?_⟩
  · simp only [pick, List.getElem?_toArray, List.getElem?_cons_succ, List.getElem?_cons_zero, Option.toList_some, List.cons_append, List.nil_append, Act.put, List.setIfInBounds_toArray, List.set_cons_zero, List.set_cons_succ]
    repeat (first | (go_big_quiet_want; refine quiet_cut_hn _ _ rfl a8 (bl + z) c8 z _ rfl _ rfl rfl rfl hc8 ?_; go_big_quiet_on; simp only [Act.put, List.setIfInBounds_toArray, List.set_cons_zero, List.set_cons_succ]) | go_big_quiet_step (fail))
    exact wpQuiet_nil rfl
  refine FlowB.AlChk.nil ?_
  refine FlowB.Walk.fin fun w5 h5 hF5 hG5 => ?_
  simp only [List.drop_succ_cons, List.drop_zero]
  obtain ⟨a9, c9, he9, t9, o9⟩ := hG5
  cases he9
  have HTq := hid (HT.out.on h5.below)
  have Kq := hid (Kv.out.below h5.below)
  have HXq := hid (TextO.mk (S := dkS p bb dv ++ rfS r ov av wv) (t9.headT z (by omega)) (fun q hq hm => by
    have h1 := o9 q hq
    rcases List.mem_append.1 hm with h | h
    · have := (dkS_lt HT.out.dk _ h).2
      omega
    · have := (rfS_lt2 HT.out.rf _ h).2
      omega))
  have HP : Hid ((tb ++ List.replicate z (0 : Int)).take z = padZ z tb) := hid rfl
  rw [HP.out] at HXq
  generalize padZ z tb = tp at *
  have g1 : w5.cell? ⟨w.heap.size, 1, none⟩ = some (.int .i64 k) := by rw [Kq.out.cell]; rfl
  clear h5 hF5 t9 o9 hF8 hy8 hy0 hF0 hF3 hy3 HT
  go_wp2_with fail
  refine FlowB.wp_region_butIn (dkS p bb dv ++ rfS r ov av wv) (fun wz => DkS wz W.heap.size p bb z n dv σ (rfS r ov av wv) ∧ RfS wz W.heap.size r z ov av wv σ (dkS p bb dv)) 14 [0, 1, 2, 3, 4, 6, 7, 8, 9] [] [(.c 5, [], []), (.c 10, [11, 12, 13], [])] (by kernel_rfl) (by kernel_rfl) ⟨HTq.out.dk, HTq.out.rf⟩ (fun _ _ h hb => ⟨h.1.below hb, h.2.below hb⟩) ?_
  apply Exists.intro
  refine ⟨fun w0 hb0 hF0 => ?_, ?_⟩
  · skip
    have y1 : ∀ w', (∃ x : Ext w0, w' = x.at_) → w'.cell? ⟨w.heap.size, 1, none⟩ = some (.int .i64 k) := fun w' ⟨x, hx⟩ => by rw [hx, ((hb0.blk Kq.out hnin.out).below x.same).cell]; rfl
    simp only [pick, List.getElem?_toArray, List.getElem?_cons_succ, List.getElem?_cons_zero, Option.toList_some, List.cons_append, List.nil_append]
    repeat (first | (go_big_quiet_want; refine quiet_load_one 3 _ rfl ⟨w.heap.size, 1, none⟩ rfl _ y1 _ Try.underlying3 rfl ?_; go_big_quiet_on; simp only [Act.put, List.setIfInBounds_toArray, List.set_cons_zero, List.set_cons_succ]) | go_big_quiet_step (fail))
    exact wpQuiet_nil rfl
  refine FlowB.AlChk.nil ?_
  refine FlowB.Walk.call rfl 16 #[.pointer (some ⟨p, 0, none⟩), .int .i64 k, .slice a8 z c8] (fun v _ => v = .int .i64 σ.co) (fun _ wz => ∃ v2, DkS wz W.heap.size p bb z n v2 (σ.wr z (k0, tp)) (rfS r ov av wv) ∧ RfS wz W.heap.size r z ov av wv σ (dkS p bb v2)) (fun _ _ _ _ h _ => h) (fun _ _ _ h k => by obtain ⟨v2, h1, h2⟩ := h; exact ⟨v2, h1.below k, h2.below k⟩) rfl (fun y1 hy1 hF1 hG1 => ⟨by go_simp, ?_⟩) ?_
  · have ht1 := HXq.out.butIn hy1
    rw [hkk.out]
    refine (dwrite_any y1 _ p bb z n c dv σ _ hG1.1 HTq.out.ok (by omega) hon (Nat.le_trans HTq.out.below.size hy1.size) k0 hkn a8 c8 tp ⟨ht1.text, fun q hq hm => ht1.out q hq (List.mem_append_left _ hm)⟩).mono ?_
    rintro e y2 ⟨rfl, b2, v2, d2, s2⟩
    exact ⟨_, rfl, ButIn.wide b2 (fun _ h => List.mem_append_left _ h), rfl, v2, d2, hG1.2.stay hG1.1 b2 s2⟩
  rintro v1 y4 hy4 hF4 rfl
  apply Exists.intro
  refine ⟨fun y3 hb3 hF3 => wpQuiet_nil rfl, ?_⟩
  refine FlowB.AlChk.nil ?_
  refine FlowB.Walk.call rfl 35 #[.pointer (some ⟨r, 0, none⟩), .int .i64 k, .slice a8 z c8] (fun v _ => v = .int .i64 σ.co) (fun _ wz => ∃ v2 av2 wv2, DkS wz W.heap.size p bb z n v2 (σ.wr z (k0, tp)) (rfS r ov av2 wv2) ∧ RfS wz W.heap.size r z ov av2 wv2 (σ.wr z (k0, tp)) (dkS p bb v2)) (fun _ _ _ _ h _ => h) (fun _ _ _ h k => by obtain ⟨v2, a2, b2, h1, h2⟩ := h; exact ⟨v2, a2, b2, h1.below k, h2.below k⟩) rfl (fun y1 hy1 hF1 hG1 => ⟨by go_simp, ?_⟩) ?_
  · obtain ⟨v2, d2, r2⟩ := hG1
    rw [hkk.out]
    have ht1 := HXq.out.butIn hy1
    refine (rwrite_any y1 _ r z n c ov av wv σ _ r2 HTq.out.ok (by omega) z2 n1 hon k0 hkn a8 c8 tp ⟨ht1.text, fun q hq hm => ht1.out q hq (List.mem_append_right _ hm)⟩).mono ?_
    rintro e y2 ⟨rfl, b2, av2, wv2, q2, s2⟩
    exact ⟨_, rfl, ButIn.wide b2 (fun _ h => List.mem_append_right _ h), rfl, v2, av2, wv2, d2.stay r2 b2 s2, q2⟩
  rintro v2 y5 hy5 hF5 rfl
  apply Exists.intro
  refine ⟨fun y3 hb3 hF3 => ?_, ?_⟩
  · simp only [pick, List.getElem?_toArray, List.getElem?_cons_succ, List.getElem?_cons_zero, Option.toList_some, List.cons_append, List.nil_append, Act.put, List.setIfInBounds_toArray, List.set_cons_zero, List.set_cons_succ]
    repeat (first | go_big_quiet_step (fail))
    exact wpQuiet_nil rfl
  refine FlowB.AlChk.nil ?_
  refine FlowB.Walk.fin fun w9 h9 hF9 hG9 => ?_
  simp only [List.drop_succ_cons, List.drop_zero]
  obtain ⟨v2, av2, wv2, d9, q9⟩ := hG9
  have HZ := hid (show Two W w9 r p bb z n (c + 1) v2 ov av2 wv2 (σ.wr z (k0, tp)) from ⟨below_in HTq.out.below h9 (Nat.le_refl _) (fun q hq => by
      rcases List.mem_append.1 hq with h | h
      · exact (dkS_lt HTq.out.dk q h).1
      · exact (rfS_lt2 HTq.out.rf q h).1), d9, q9, HTq.out.ok.wr hon k0 hkn tp HXq.out.text.length, z1, z2, n1, n2, by omega⟩)
  clear h9 hF9 d9 q9
  go_wp2_with fail
  go_returns
  exact ⟨by first | rfl | simp, _, _, _, _, HZ.out⟩
end Go.Proofs.Ytmpgnpkodapidaa

namespace Go.Proofs.Ytmpgnpkodapidaa
open Go.ChangeShapes Go.WideShapes Go.ChangeAt Go.RowKit

theorem step_any (W w : World) (r p bb z n c : Nat) (dv ov av wv : Value) (σ : PS) (hT : Two W w r p bb z n c dv ov av wv σ) (y k : Int) (ba ka : Option Addr) (bl bc kc : Nat) (ks img tb : List Int) (hB : TextAt W ba bl bc tb) (hbl : bl ≤ 600) (hK : IntsAt W [] ka ks) (hl : ks.length ≤ 1000) (hn : ka = none → ks = [] ∧ kc = 0) (hw : ∀ k ∈ ks, -9223372036854775808 ≤ k ∧ k ≤ 9223372036854775807) (hk2 : k < 9223372036854775808) (hi : ∀ x ∈ img, 0 ≤ x ∧ x < 256) (hil : img.length ≤ 32768) (hc : c < 800) :
    Calls Try.prog 13 #[.pointer (some ⟨p, 0, none⟩), .pointer (some ⟨r, 0, none⟩), .agg #[.int .i64 y, .int .i64 k, .slice ba bl bc, .slice ka ks.length kc], .string (strOfNums img)] w fun e w' => ∃ im, e = .returned (.tuple #[.string (strOfNums im), .bool true]) ∧ (∀ x ∈ im, 0 ≤ x ∧ x < 256) ∧ im.length ≤ 32768 ∧ ∃ v2 av2 wv2 τ, Two W w' r p bb z n (c + 1) v2 ov av2 wv2 τ := by
  have hnz : n * z ≤ 64 * 512 := Nat.mul_le_mul hT.n2 hT.z2
  have hz1 := hT.z1
  by_cases hy : y < 0 ∨ 8 < y
  · exact (step_none _ _ _ _ _ _ _ _ _ _ _ _ _ hT _ _ _ _ _ _ _ _ y hy hc).mono (fun e w' h => ⟨img, h.1, hi, hil, h.2⟩)
  obtain rfl | rfl | rfl | rfl | rfl | rfl | rfl | rfl | rfl : y = 0 ∨ y = 1 ∨ y = 2 ∨ y = 3 ∨ y = 4 ∨ y = 5 ∨ y = 6 ∨ y = 7 ∨ y = 8 := by omega
  · cases hon : σ.on
    · by_cases h0 : bl = 0
      · subst h0
        exact (step_write_off_zero _ _ _ _ _ _ _ _ _ _ _ _ _ hT _ _ _ _ _ _ _ hon hc).mono (fun e w' h => ⟨img, h.1, hi, hil, h.2⟩)
      · by_cases he : Int.tmod k 2 = 0
        · exact (step_pad_off _ _ _ _ _ _ _ _ _ _ _ _ _ hT _ _ _ _ _ _ _ _ (by omega) he hbl tb hB hon hc).mono (fun e w' h => ⟨img, h.1, hi, hil, h.2⟩)
        · exact (step_write_off_odd _ _ _ _ _ _ _ _ _ _ _ _ _ hT _ _ _ _ _ _ _ _ (by omega) he hon hc).mono (fun e w' h => ⟨img, h.1, hi, hil, h.2⟩)
    · by_cases h0 : bl = 0
      · subst h0
        exact (step_write_bad_zero _ _ _ _ _ _ _ _ _ _ _ _ _ hT _ _ _ _ _ _ _ hon (by omega) hc).mono (fun e w' h => ⟨img, h.1, hi, hil, h.2⟩)
      · by_cases he : Int.tmod k 2 = 0
        · by_cases hb : k < 0 ∨ (n : Int) ≤ k
          · exact (step_pad_bad _ _ _ _ _ _ _ _ _ _ _ _ _ hT _ _ _ _ _ _ _ _ (by omega) he hbl tb hB hon hb hc).mono (fun e w' h => ⟨img, h.1, hi, hil, h.2⟩)
          · obtain ⟨k0, hk0⟩ := Int.eq_ofNat_of_zero_le (show 0 ≤ k by omega)
            exact (step_pad _ _ _ _ _ _ _ _ _ _ _ _ _ hT _ _ _ _ _ _ k0 _ _ (by omega) he hbl tb hB hon hk0 (by omega) hc).mono (fun e w' h => ⟨img, h.1, hi, hil, h.2⟩)
        · by_cases hb : k < 0 ∨ (n : Int) ≤ k ∨ bl ≠ z
          · exact (step_write_bad_odd _ _ _ _ _ _ _ _ _ _ _ _ _ hT _ _ _ _ _ _ _ _ (by omega) he hon hb hc).mono (fun e w' h => ⟨img, h.1, hi, hil, h.2⟩)
          · obtain ⟨k0, hk0⟩ := Int.eq_ofNat_of_zero_le (show 0 ≤ k by omega)
            have hz : bl = z := by omega
            subst hz
            exact (step_write_odd _ _ _ _ _ _ _ _ _ _ _ _ _ hT _ _ _ _ _ k0 _ _ tb he hon hk0 (by omega) hB hc).mono (fun e w' h => ⟨img, h.1, hi, hil, h.2⟩)
  · cases hon : σ.on
    · exact (step_read_off _ _ _ _ _ _ _ _ _ _ _ _ _ hT _ _ _ _ _ _ _ _ hon hc).mono (fun e w' h => ⟨img, h.1, hi, hil, h.2⟩)
    · by_cases hb : k < 0 ∨ (n : Int) ≤ k
      · exact (step_read_bad _ _ _ _ _ _ _ _ _ _ _ _ _ hT _ _ _ _ _ _ _ _ hon hb hc).mono (fun e w' h => ⟨img, h.1, hi, hil, h.2⟩)
      · obtain ⟨k0, rfl⟩ := Int.eq_ofNat_of_zero_le (show 0 ≤ k by omega)
        exact (step_read_good _ _ _ _ _ _ _ _ _ _ _ _ _ hT _ _ _ _ _ _ _ _ hon (by omega) hc).mono (fun e w' h => ⟨img, h.1, hi, hil, h.2⟩)
  · cases hon : σ.on
    · exact (step_sync_off _ _ _ _ _ _ _ _ _ _ _ _ _ hT _ _ _ _ _ _ _ _ hon hc).mono (fun e w' h => ⟨img, h.1, hi, hil, h.2⟩)
    · exact (step_sync _ _ _ _ _ _ _ _ _ _ _ _ _ hT _ _ _ _ _ _ _ _ hon hc).mono (fun e w' h => ⟨img, h.1, hi, hil, h.2⟩)
  · exact (step_fail _ _ _ _ _ _ _ _ _ _ _ _ _ hT _ _ _ _ _ _ _ _ hc hK hl hn hw hk2).mono (fun e w' h => ⟨img, h.1, hi, hil, h.2⟩)
  · exact (step_crash _ _ _ _ _ _ _ _ _ _ _ _ _ hT _ _ _ _ _ _ _ _ hc hK hw).mono (fun e w' h => ⟨img, h.1, hi, hil, h.2⟩)
  · exact (step_boot _ _ _ _ _ _ _ _ _ _ _ _ _ hT _ _ _ _ _ _ _ _ hc).mono (fun e w' h => ⟨img, h.1, hi, hil, h.2⟩)
  · obtain ⟨set, af, kv, d1, -⟩ := hT.dk.ex
    have hs := d1.small
    have hln := d1.len
    exact (step_image _ _ _ _ _ _ _ _ _ _ _ _ _ hT _ _ _ _ _ _ _ _ hc).mono (fun e w' h => ⟨σ.On.flatten, h.1, hs, by omega, h.2⟩)
  · by_cases hm : img.length = n * z
    · exact (step_back _ _ _ _ _ _ _ _ _ _ _ _ _ hT _ _ _ _ _ _ _ _ hm.symm hc hi).mono (fun e w' h => ⟨img, h.1, hi, hil, h.2⟩)
    · exact (step_back_no _ _ _ _ _ _ _ _ _ _ _ _ _ hT _ _ _ _ _ _ _ _ _ rfl hc hm).mono (fun e w' h => ⟨img, h.1, hi, hil, h.2⟩)
  · by_cases hm : bl = n * z
    · exact (step_put _ _ _ _ _ _ _ _ _ _ _ _ _ hT _ _ _ _ _ _ _ _ hm.symm hc tb hB).mono (fun e w' h => ⟨img, h.1, hi, hil, h.2⟩)
    · exact (step_put_no _ _ _ _ _ _ _ _ _ _ _ _ _ hT _ _ _ _ _ _ _ _ _ rfl hc hm).mono (fun e w' h => ⟨img, h.1, hi, hil, h.2⟩)
end Go.Proofs.Ytmpgnpkodapidaa

namespace Go.Proofs.Ytmpgnpkodapidaa
open Go.ChangeShapes Go.WideShapes Go.ChangeAt Go.RowKit

structure D12 where
  what : Int
  k : Int
  b : List Int
  keep : List Int
def z12 : D12 := ⟨0, 0, [], []⟩
/-- A deed, in memory: its four cells. -/
structure Deed12 (w : World) (x o : Nat) (d : D12) (ba : Option Addr) (bc : Nat) (ka : Option Addr) (kc : Nat) : Prop where
  cells : w.rangeAt x o [.int .i64 d.what, .int .i64 d.k, .slice ba d.b.length bc, .slice ka d.keep.length kc]
  text : TextAt w ba d.b.length bc d.b
  ints : IntsAt w [] ka d.keep
  none_ : ka = none → d.keep = [] ∧ kc = 0
  wide : ∀ k ∈ d.keep, -9223372036854775808 ≤ k ∧ k ≤ 9223372036854775807
  num : -9223372036854775808 ≤ d.k ∧ d.k ≤ 9223372036854775807
structure Deeds12 (w : World) (a : Option Addr) (len cap : Nat) (ds : List D12) : Prop where
  length : ds.length = len
  le : len ≤ cap
  mem : len = 0 ∨ ∃ x o, a = some ⟨x, o, none⟩ ∧ x < w.heap.size ∧ ∀ j, j < len → ∃ ba bc ka kc, Deed12 w x (o + j * 4) (ds.getD j z12) ba bc ka kc
set_option maxHeartbeats 4000000 in
set_option maxRecDepth 100000 in
theorem deed12_cells {H : Type} {enc : TypeId × Value → H} {W : World} {fuel : Nat} {cs : List Value} {x : DataW H × List MemPlace} (hf : DataW.trod enc Try.prog W 0 (fun _ => true) true fuel 34 cs = some x) :
    ∃ (d : D12) (ba : Option Addr) (bc : Nat) (ka : Option Addr) (kc : Nat), cs = [.int .i64 d.what, .int .i64 d.k, .slice ba d.b.length bc, .slice ka d.keep.length kc] ∧ TextAt W ba d.b.length bc d.b ∧ IntsAt W [] ka d.keep ∧ (ka = none → d.keep = [] ∧ kc = 0) ∧ (∀ k ∈ d.keep, -9223372036854775808 ≤ k ∧ k ≤ 9223372036854775807) ∧ -9223372036854775808 ≤ d.k ∧ d.k ≤ 9223372036854775807 := by
  obtain ⟨f0, f1, f2, f3, hu, t0, t1, t2, t3, o0, o1, o2, o3⟩ : ∃ f0 f1 f2 f3 : Field, Try.prog.underlying 34 = some (.struct #[f0, f1, f2, f3]) ∧ f0.type = 3 ∧ f1.type = 3 ∧ f2.type = 31 ∧ f3.type = 32 ∧ f0.offset = 0 ∧ f1.offset = 1 ∧ f2.offset = 2 ∧ f3.offset = 3 := ⟨_, _, _, _, Try.underlying34, rfl, rfl, rfl, rfl, rfl, rfl, rfl, rfl⟩
  have c5 : Try.prog.cellsOf 34 = 4 := by kernel_rfl
  have cb : Try.prog.cellsOf 31 = 1 := by kernel_rfl
  have ci : Try.prog.cellsOf 3 = 1 := by kernel_rfl
  have ck : Try.prog.cellsOf 32 = 1 := by kernel_rfl
  obtain ⟨xs, n, -, -, hl, hx, hg⟩ := DataW.trod_struct hu hf
  rw [c5] at hl
  match cs, hl with
  | [v0, v1, v2, v3], _ =>
    match xs, hx with
    | [y0, y1, y2, y3], _ =>
      have g0 := hg 0 f0 rfl
      have g1 := hg 1 f1 rfl
      have g2 := hg 2 f2 rfl
      have g3 := hg 3 f3 rfl
      rw [t0, o0, ci] at g0
      rw [t1, o1, ci] at g1
      rw [t2, o2, cb] at g2
      rw [t3, o3, ck] at g3
      obtain ⟨q0, e0, -, -⟩ := DataW.trod_int Try.underlying3 (show _ = some y0 from g0)
      obtain ⟨q1, e1, -, w2⟩ := DataW.trod_int Try.underlying3 (show _ = some y1 from g1)
      obtain ⟨ba, bn, bc, bs, e2, k0⟩ := text_cells (show _ = some y2 from g2)
      obtain ⟨ka, kc, ks, e3, k3, n3, m3⟩ := ints_cells (show _ = some y3 from g3)
      obtain rfl := k0.length
      have w2 := wf_i64 w2
      refine ⟨⟨q0, q1, bs, ks⟩, ba, bc, ka, kc, ?_, k0, k3, n3, m3, w2.1, by show q1 ≤ _; omega⟩
      simp at e0 e1 e2 e3
      simp [e0, e1, e2, e3]
set_option maxHeartbeats 4000000 in
set_option maxRecDepth 100000 in
theorem open_deeds12 {H : Type} {enc : TypeId × Value → H} {W : World} {base : Nat} {v : Value} {d : DataW H} {p : List MemPlace} (hv : Value.okWide Try.prog W .any base 22 v) (h : DataW.Trod enc Try.prog W 0 (fun _ => true) true 22 v d p) :
    ∃ (a : Option Addr) (len cap : Nat) (ds : List D12), v = .slice a len cap ∧ cap ≤ 9223372036854775807 ∧ Deeds12 W a len cap ds := by
  have ce : Try.prog.cellsOf 34 = 4 := by kernel_rfl
  obtain ⟨a, len, cap, rfl⟩ := okWide_slice Try.underlying22 hv
  obtain ⟨fuel, hf⟩ := h
  rcases Go.Deep.open_slice Try.underlying22 hf with ⟨hcs, _⟩ | ⟨x, l, c, m, n, D, Pl, hcs, _, hl, hm, hmm, _, hall⟩
  · simp [Value.cells] at hcs
    obtain ⟨rfl, rfl, rfl⟩ := hcs
    exact ⟨none, 0, 0, [], rfl, by omega, ⟨rfl, Nat.le_refl _, .inl rfl⟩⟩
  · simp [Value.cells] at hcs
    obtain ⟨rfl, rfl, rfl⟩ := hcs
    obtain ⟨b, off, s⟩ := x
    simp only [if_true] at hmm
    have hall' : ∀ i, i < cap → ∃ (d : D12) (ba : Option Addr) (bc : Nat) (ka : Option Addr) (kc : Nat), W.cells? 0 ((⟨b, off, s⟩ : Addr).add (i * 4)) 4 = some [.int .i64 d.what, .int .i64 d.k, .slice ba d.b.length bc, .slice ka d.keep.length kc] ∧ TextAt W ba d.b.length bc d.b ∧ IntsAt W [] ka d.keep ∧ (ka = none → d.keep = [] ∧ kc = 0) ∧ (∀ k ∈ d.keep, -9223372036854775808 ≤ k ∧ k ≤ 9223372036854775807) ∧ -9223372036854775808 ≤ d.k ∧ d.k ≤ 9223372036854775807 := fun i hi => by
      obtain ⟨cs', h1, h2⟩ := hall i (by omega)
      rw [ce] at h1
      obtain ⟨y, ba, bc, ka, kc, rfl, h3⟩ := deed12_cells h2
      exact ⟨y, ba, bc, ka, kc, h1, h3⟩
    let f : Nat → D12 := fun i => if h : i < cap then Classical.choose (hall' i h) else z12
    have hf : ∀ i, i < cap → ∃ (ba : Option Addr) (bc : Nat) (ka : Option Addr) (kc : Nat), W.cells? 0 ((⟨b, off, s⟩ : Addr).add (i * 4)) 4 = some [.int .i64 (f i).what, .int .i64 (f i).k, .slice ba (f i).b.length bc, .slice ka (f i).keep.length kc] ∧ TextAt W ba (f i).b.length bc (f i).b ∧ IntsAt W [] ka (f i).keep ∧ (ka = none → (f i).keep = [] ∧ kc = 0) ∧ (∀ k ∈ (f i).keep, -9223372036854775808 ≤ k ∧ k ≤ 9223372036854775807) ∧ -9223372036854775808 ≤ (f i).k ∧ (f i).k ≤ 9223372036854775807 := fun i hi => by
      simp only [f, hi, dif_pos]
      exact Classical.choose_spec (hall' i hi)
    refine ⟨_, len, cap, (List.range len).map f, rfl, by unfold maxLen at hm; omega, ⟨by simp, hl, ?_⟩⟩
    by_cases hz : len = 0
    · exact .inl hz
    obtain ⟨ba0, bc0, ka0, kc0, h0, -⟩ := hf 0 (by omega)
    have h0 := (World.cells?_some h0).2.2 0 (by omega)
    have hs : s = none := by
      have := World.cell?_spot h0
      simpa [Addr.add] using this
    subst hs
    have hx : b < W.heap.size := by
      rw [Addr.add_mid, Addr.add_mid] at h0
      exact World.block_lt_of_cell? W _ h0
    refine .inr ⟨b, off, rfl, hx, fun i hi => ?_⟩
    obtain ⟨ba, bc, ka, kc, h1, h2, h3, h4, h5, h6⟩ := hf i (by omega)
    have e : ((List.range len).map f).getD i z12 = f i := by simp [hi]
    rw [e]
    refine ⟨ba, bc, ka, kc, ⟨fun k v hv => ?_, h2, h3, h4, h5, h6⟩⟩
    have hc := (World.cells?_some h1).2.2
    have hk : k < 4 := (List.getElem?_eq_some_iff.1 hv).1
    have := hc k hk
    rw [Addr.add_mid, Addr.add_mid] at this
    rw [this]
    exact hv
end Go.Proofs.Ytmpgnpkodapidaa

namespace Go.Proofs.Ytmpgnpkodapidaa
open Go.ChangeShapes Go.WideShapes Go.ChangeAt Go.RowKit

theorem size_deed12 : (Try.prog.info? 34).map (·.size) = some 4 := by kernel_rfl
theorem rangeAt_base12 {W w : World} {x o : Nat} {l : List Value} (h : W.rangeAt x o l) (hx : x < W.heap.size) (hb : Below W.heap.size W w) : w.rangeAt x o l := fun k v hv => by
  rw [hb.cell (p := ⟨x, o + k, none⟩) hx]
  exact h k v hv
set_option maxHeartbeats 4000000 in
set_option maxRecDepth 100000 in
theorem new_bad (w : World) (n z : Int) (h : n < 1 ∨ 64 < n ∨ z < 1 ∨ 512 < z) :
    Calls Try.prog 9 #[.int .i64 n, .int .i64 z] w fun e w' => e = .returned (.tuple #[.pointer none, .int .i64 1]) ∧ Below w.heap.size w w' := by
  have Hb := hid (Below.refl w.heap.size w)
  have H := hid h
  clear h
  go_enter Try.func9, Try.ntmps9
  by_cases h1 : n < 1
  · go_wp2_with fail
    go_returns
    exact ⟨by first | rfl | simp, Hb.out⟩
  by_cases h2 : 64 < n
  · go_wp2_with fail
    go_returns
    exact ⟨by first | rfl | simp, Hb.out⟩
  by_cases h3 : z < 1
  · go_wp2_with fail
    go_returns
    exact ⟨by first | rfl | simp, Hb.out⟩
  have h4 : 512 < z := by have := H.out; omega
  go_wp2_with fail
  go_returns
  exact ⟨by first | rfl | simp, Hb.out⟩
theorem Two.start {W w : World} {r p bb z n : Nat} {ov : Value} (hB : Below W.heap.size W w) (hD : DkAt w p bb z n (List.replicate (n * z) 0) (.slice none 0 0) true false 0 (.slice none 0 0)) (hp : W.heap.size ≤ p ∧ W.heap.size ≤ bb) (hR : RfAt w W.heap.size r z ov (.slice none 0 0) (.slice none 0 0) (List.replicate n (List.replicate z (0 : Int))) [] false (-1) (.slice none 0 0)) : Two W w r p bb z n 0 (.slice none 0 0) ov (.slice none 0 0) (.slice none 0 0) ⟨true, List.replicate n (List.replicate z (0 : Int)), [], none⟩ :=
  ⟨hB, ⟨⟨_, _, _, by rw [List.flatten_replicate_replicate]; exact hD, WaitU.nil _ _ _ _, fun h => (nomatch h), fun _ => .inl ⟨rfl, rfl⟩⟩, hp⟩, ⟨_, _, hR, fun _ => .inl ⟨rfl, rfl⟩⟩, ⟨by simp, fun t ht => by rw [List.eq_of_mem_replicate ht]; simp, by simp, by simp, fun h => (nomatch h)⟩, hD.z1, hD.z2, hD.n1, hD.n2, by decide⟩
set_option maxHeartbeats 4000000 in
set_option maxRecDepth 100000 in
theorem diskPlays_long (s0 z0 : Int) (la : Option Addr) (ln lc : Nat) (w : World) (h : 60 < ln) :
    Calls Try.prog 3 #[.int .i64 s0, .int .i64 z0, .slice la ln lc] w fun e w' => e = .returned (.bool true) ∧ Below w.heap.size w w' := by
  have hI : (60 : Int) < (ln : Int) := by omega
  go_enter Try.func3, Try.ntmps3
  go_wp2_with fail
  refine (knows12 w).mono ?_
  rintro e w2 ⟨rfl, b2⟩
  have HB2 := hid b2
  clear b2
  go_wp2_with fail
  go_returns
  exact ⟨rfl, HB2.out⟩
set_option maxHeartbeats 4000000 in
set_option maxRecDepth 100000 in
theorem diskPlays_bad (s0 z0 : Int) (la : Option Addr) (ln lc : Nat) (w : World) (hl : ¬ 60 < ln) (h : s0 < 1 ∨ 64 < s0 ∨ z0 < 1 ∨ 512 < z0) :
    Calls Try.prog 3 #[.int .i64 s0, .int .i64 z0, .slice la ln lc] w fun e w' => e = .returned (.bool true) ∧ Below w.heap.size w w' := by
  have hI : ¬ (60 : Int) < (ln : Int) := by omega
  have H := hid h
  clear h
  go_enter Try.func3, Try.ntmps3
  go_wp2_with fail
  refine (new_bad w s0 z0 H.out).mono ?_
  rintro e w1 ⟨rfl, b1⟩
  have HB1 := hid b1
  clear b1
  by_cases h1 : s0 < 1
  · go_wp2_with fail
    refine (knows12 w1).mono ?_
    rintro e w2 ⟨rfl, b2⟩
    have HB2 := hid (Below.on HB1.out b2)
    clear b2
    go_wp2_with fail
    go_returns
    exact ⟨by first | rfl | simp, HB2.out⟩
  by_cases h2 : 64 < s0
  · go_wp2_with fail
    refine (knows12 w1).mono ?_
    rintro e w2 ⟨rfl, b2⟩
    have HB2 := hid (Below.on HB1.out b2)
    clear b2
    go_wp2_with fail
    go_returns
    exact ⟨by first | rfl | simp, HB2.out⟩
  by_cases h3 : z0 < 1
  · go_wp2_with fail
    refine (knows12 w1).mono ?_
    rintro e w2 ⟨rfl, b2⟩
    have HB2 := hid (Below.on HB1.out b2)
    clear b2
    go_wp2_with fail
    go_returns
    exact ⟨by first | rfl | simp, HB2.out⟩
  have h4 : 512 < z0 := by have := H.out; omega
  go_wp2_with fail
  refine (knows12 w1).mono ?_
  rintro e w2 ⟨rfl, b2⟩
  have HB2 := hid (Below.on HB1.out b2)
  clear b2
  go_wp2_with fail
  go_returns
  exact ⟨by first | rfl | simp, HB2.out⟩
set_option maxHeartbeats 4000000 in
set_option maxRecDepth 100000 in
theorem diskPlays_good (n z : Nat) (la : Option Addr) (ln lc : Nat) (ds : List D12) (w : World) (hD : Deeds12 w la ln lc ds) (hl : ¬ 60 < ln) (h1 : 1 ≤ n ∧ n ≤ 64) (h2 : 1 ≤ z ∧ z ≤ 512) :
    Calls Try.prog 3 #[.int .i64 n, .int .i64 z, .slice la ln lc] w fun e w' => e = .returned (.bool true) ∧ Below w.heap.size w w' := by
  have hI : ¬ (60 : Int) < (ln : Int) := by omega
  have HDS := hid hD
  clear hD
  have g1 : ¬ (n : Int) < 1 := by omega
  have g2 : ¬ (64 : Int) < (n : Int) := by omega
  have g3 : ¬ (z : Int) < 1 := by omega
  have g4 : ¬ (512 : Int) < (z : Int) := by omega
  go_enter Try.func3, Try.ntmps3
  go_wp2_with fail
  refine (new_good w n z h1.1 h1.2 h2.1 h2.2).mono ?_
  rintro e w1 ⟨p, bb, rfl, hp, hbb, b1, d1⟩
  have HB1 := hid b1
  have HD1 := hid d1
  clear b1 d1
  go_wp2_with fail
  refine (sectors_any w1 p bb z n _ _ true false 0 _ HD1.out).mono ?_
  rintro e w2 ⟨rfl, b2⟩
  have HB2 := hid (Below.on HB1.out b2)
  have HD2 := hid (HD1.out.below b2)
  clear b2
  go_wp2_with fail
  refine (size_any w2 p bb z n _ _ true false 0 _ HD2.out).mono ?_
  rintro e w3 ⟨rfl, b3⟩
  have HB3 := hid (Below.on HB2.out b3)
  have HD3 := hid (HD2.out.below b3)
  clear b3
  go_wp2_with fail
  refine (refnew_any w3 w.heap.size n z HB3.out.size h1 h2).mono ?_
  rintro e w4 ⟨rfl, b4, ov, r4, -⟩
  have HB4 := hid (Below.on HB3.out b4)
  have HT4 := hid (Two.start HB4.out (HD3.out.below b4) ⟨hp, hbb⟩ r4)
  clear b4 r4
  obtain ⟨r, hr⟩ : ∃ r, w3.heap.size = r := ⟨_, rfl⟩
  rw [hr] at HT4
  rw [hr]
  clear hr
  go_wp2_with fail
  go_loopw [10, 11] (fun mv iv wr => ∃ (j : Nat) (im : List Int) (dv av wv : Value) (σ : PS), j ≤ ln ∧ iv = .int .i64 j ∧ mv = .string (strOfNums im) ∧ (∀ x ∈ im, 0 ≤ x ∧ x < 256) ∧ im.length ≤ 32768 ∧ Two w wr r p bb z n j dv ov av wv σ) (fun _ iv _ => ln - (intOf iv).toNat)
  case atStart => exact ⟨0, [], _, _, _, _, Nat.zero_le _, rfl, by first | rfl | decide, by simp, by simp, HT4.out⟩
  case round =>
    clear HT4 HB4 HD1 HD2 HD3 HB1 HB2 HB3
    obtain ⟨j, im, dv, av, wv, σ, hj, rfl, rfl, him, hil, hT⟩ := hrel
    have HT := hid hT
    clear hT
    by_cases hlt : j < ln
    · have hjI : (j : Int) < (ln : Int) := by omega
      obtain ⟨hdl, hdle, h0 | ⟨x, o, rfl, hx, hcell⟩⟩ := HDS.out
      · omega
      obtain ⟨ba, bc, ka, kc, hdd⟩ := hcell j hlt
      clear hcell
      obtain ⟨d, hE⟩ : ∃ d, ds.getD j z12 = d := ⟨_, rfl⟩
      rw [hE] at hdd
      clear hE
      obtain ⟨y, k, b, ks⟩ := d
      have HRg := hid (show wr.rangeAt x (o + j * 4) [.int .i64 y, .int .i64 k, .slice ba b.length bc, .slice ka ks.length kc] from rangeAt_base12 hdd.cells hx HT.out.below)
      have q2 : wr.cell? ⟨x, o + j * 4 + 2, none⟩ = some (.slice ba b.length bc) := HRg.out 2 _ rfl
      have q3 : wr.cell? ⟨x, o + j * 4 + 3, none⟩ = some (.slice ka ks.length kc) := HRg.out 3 _ rfl
      have HT0 := hid (show TextAt w ba b.length bc b from hdd.text)
      have HI0 := hid (show IntsAt w [] ka ks from hdd.ints)
      have hkn : ka = none → ks = [] ∧ kc = 0 := hdd.none_
      have hkw : ∀ k ∈ ks, -9223372036854775808 ≤ k ∧ k ≤ 9223372036854775807 := hdd.wide
      have hkk : k ≤ 9223372036854775807 := hdd.num.2
      clear hdd
      by_cases hb6 : 600 < b.length
      · have hbI : (600 : Int) < (b.length : Int) := by omega
        go_wp2_with (first
          | (refine wpList_index_s 4 rfl 22 _ _ rfl Try.underlying22 size_deed12 x o ln lc rfl _ _ rfl j rfl hlt ?_)
          | (refine wpList_index_s_if (by first | rfl | go_simp) 4 rfl 22 _ _ rfl Try.underlying22 size_deed12 x o ln lc rfl _ _ rfl j rfl hlt ?_)
          | (refine wpList_load_mid rfl 34 _ rfl x (o + j * 4) rfl _ _ HRg.out Try.underlying34 rfl size_deed12 ?_))
        refine (knows12 _).mono ?_
        rintro e w9 ⟨rfl, b9⟩
        have HB9 := hid (Below.on HT.out.below b9)
        clear b9
        go_wp2_with fail
        go_returns
        exact ⟨rfl, HB9.out⟩
      have hbI : ¬ (600 : Int) < (b.length : Int) := by omega
      by_cases hk6 : 60 < ks.length
      · have hkI : (60 : Int) < (ks.length : Int) := by omega
        go_wp2_with (first
          | (refine wpList_index_s 4 rfl 22 _ _ rfl Try.underlying22 size_deed12 x o ln lc rfl _ _ rfl j rfl hlt ?_)
          | (refine wpList_index_s_if (by first | rfl | go_simp) 4 rfl 22 _ _ rfl Try.underlying22 size_deed12 x o ln lc rfl _ _ rfl j rfl hlt ?_)
          | (refine wpList_load_mid rfl 34 _ rfl x (o + j * 4) rfl _ _ HRg.out Try.underlying34 rfl size_deed12 ?_))
        refine (knows12 _).mono ?_
        rintro e w9 ⟨rfl, b9⟩
        have HB9 := hid (Below.on HT.out.below b9)
        clear b9
        go_wp2_with fail
        go_returns
        exact ⟨rfl, HB9.out⟩
      have hkI : ¬ (60 : Int) < (ks.length : Int) := by omega
      go_wp2_with (first
          | (refine wpList_index_s 4 rfl 22 _ _ rfl Try.underlying22 size_deed12 x o ln lc rfl _ _ rfl j rfl hlt ?_)
          | (refine wpList_index_s_if (by first | rfl | go_simp) 4 rfl 22 _ _ rfl Try.underlying22 size_deed12 x o ln lc rfl _ _ rfl j rfl hlt ?_)
          | (refine wpList_load_mid rfl 34 _ rfl x (o + j * 4) rfl _ _ HRg.out Try.underlying34 rfl size_deed12 ?_))
      refine (step_any w wr r p bb z n j dv ov av wv σ HT.out y k ba ka b.length bc kc ks im b HT0.out (by omega) HI0.out (by omega) hkn hkw (by omega) him hil (by omega)).mono ?_
      rintro e w9 ⟨im2, rfl, hi2, hl2, v2, av2, wv2, τ, hT2⟩
      have HT2 := hid hT2
      clear hT2 q2 q3
      go_wp2_with fail
      exact ⟨⟨j + 1, im2, v2, av2, wv2, τ, by omega, by first | rfl | simp, rfl, hi2, hl2, HT2.out⟩, by simp [intOf]; omega⟩
    · have hjn : ¬ (j : Int) < (ln : Int) := by omega
      obtain ⟨left, rk, r1, -⟩ := HT.out.rf.ex
      obtain ⟨set, af, kv, d1, -⟩ := HT.out.dk.ex
      have HR1 := hid r1
      have HD1 := hid d1
      clear r1 d1
      obtain ⟨B, hB0⟩ : ∃ B, σ.On.flatten = B := ⟨_, rfl⟩
      rw [hB0] at HD1
      have hBf := hid hB0
      clear hB0
      have hlen := HT.out.ok.len
      have hsec := HT.out.ok.sec
      go_wp2_with fail
      refine wp_region_flow 7 [0, 3] [] [(.c 1, [2], []), (.c 4, [5, 6], [])] (by kernel_rfl) (by kernel_rfl) ?_
      apply Exists.intro
      refine ⟨fun w0 hb0 hF0 => ?_, ?_⟩
      · skip
        simp only [pick, List.getElem?_toArray, List.getElem?_cons_succ, List.getElem?_cons_zero, Option.toList_some, List.cons_append, List.nil_append]
        repeat (first | go_big_quiet_step (fail))
        exact wpQuiet_nil rfl
      refine AlChk.nil ?_
      refine Walk.call rfl 14 #[.pointer (some ⟨p, 0, none⟩)] (fun v y => ∃ a c, v = .slice a B.length c ∧ TextAt y a B.length c B) (fun _ _ _ h k => by obtain ⟨a, c, h1, h2⟩ := h; exact ⟨a, c, h1, h2.below k⟩) rfl (fun y1 hy1 hF1 => ⟨by go_simp, ?_⟩) ?_
      · refine (image_any y1 p bb z n B dv σ.on set af kv (HD1.out.below hy1)).mono ?_
        rintro e y2 ⟨a, c, rfl, b2, t2⟩
        exact ⟨_, rfl, b2, a, c, rfl, t2⟩
      rintro v2 y4 hy4 hF4 ⟨a4, c4, rfl, t4⟩
      apply Exists.intro
      refine ⟨fun y3 hb3 hF3 => ?_, ?_⟩
      · obtain ⟨a5, c5, hq5, t5⟩ := hF3.2
        cases hq5
        have v0 := conv_str t5
        simp only [pick, List.getElem?_toArray, List.getElem?_cons_succ, List.getElem?_cons_zero, Option.toList_some, List.cons_append, List.nil_append, Act.put, List.setIfInBounds_toArray, List.set_cons_zero, List.set_cons_succ]
        repeat (first | go_big_quiet_step (fail))
        exact wpQuiet_nil rfl
      refine AlChk.nil ?_
      refine Walk.call rfl 15 #[.pointer (some ⟨r, 0, none⟩)] (fun v _ => v = .string (strOfNums B)) (fun _ _ _ h _ => h) rfl (fun y1 hy1 hF1 => ⟨by go_simp, ?_⟩) ?_
      · refine (refimage_any y1 _ r z ov av wv σ.On σ.ws _ left rk (HR1.out.below hy1) h2.2 (by omega) (by omega) hsec).mono ?_
        rintro e y2 ⟨rfl, b2⟩
        exact ⟨_, rfl, b2, by rw [hBf.out]⟩
      rintro v3 y5 hy5 hF5 rfl
      apply Exists.intro
      refine ⟨fun y3 hb3 hF3 => ?_, ?_⟩
      · simp only [pick, List.getElem?_toArray, List.getElem?_cons_succ, List.getElem?_cons_zero, Option.toList_some, List.cons_append, List.nil_append, Act.put, List.setIfInBounds_toArray, List.set_cons_zero, List.set_cons_succ]
        repeat (first | go_big_quiet_step (fail))
        exact wpQuiet_nil rfl
      refine AlChk.nil ?_
      refine Walk.fin fun w5 h5 hF5 _ => ?_
      simp only [List.drop_succ_cons, List.drop_zero]
      have HB5 := hid (Below.on HT.out.below h5)
      clear h5 hF5
      go_wp2_with fail
      refine (knows12 w5).mono ?_
      rintro e w6 ⟨rfl, b6⟩
      have HB6 := hid (Below.on HB5.out b6)
      clear b6
      go_wp2_with fail
      go_returns
      exact ⟨by first | rfl | simp, HB6.out⟩
theorem diskPlays_any (s0 z0 : Int) (la : Option Addr) (ln lc : Nat) (ds : List D12) (w : World) (hD : Deeds12 w la ln lc ds) :
    Calls Try.prog 3 #[.int .i64 s0, .int .i64 z0, .slice la ln lc] w fun e w' => e = .returned (.bool true) ∧ Below w.heap.size w w' := by
  by_cases hl : 60 < ln
  · exact diskPlays_long s0 z0 la ln lc w hl
  by_cases h : s0 < 1 ∨ 64 < s0 ∨ z0 < 1 ∨ 512 < z0
  · exact diskPlays_bad s0 z0 la ln lc w hl h
  obtain ⟨n, rfl⟩ := Int.eq_ofNat_of_zero_le (show 0 ≤ s0 by omega)
  obtain ⟨z, rfl⟩ := Int.eq_ofNat_of_zero_le (show 0 ≤ z0 by omega)
  exact diskPlays_good n z la ln lc ds w hD hl (by omega) (by omega)
end Go.Proofs.Ytmpgnpkodapidaa
