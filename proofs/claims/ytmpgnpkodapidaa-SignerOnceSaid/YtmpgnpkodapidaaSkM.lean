/-
  Layer 13: Fail, Replace and Crash, whatever is set.
-/
import Derived.Test.YtmpgnpkodapidaaSkL
namespace Go.Proofs.Ytmpgnpkodapidaa
open Go.ChangeShapes Go.WideShapes Go.ChangeAt Go.RowKit

/-- A failure that is set, or none. -/
def FailAt (w : World) (S : List Nat) (set : Bool) (af : Int) (kv : Value) : Prop := set = false ∨ set = true ∧ af < 9223372036854775808 ∧ ∃ ka kc ks, kv = .slice ka (List.length ks) kc ∧ IntsAt w S ka ks ∧ ∀ k ∈ ks, -9223372036854775808 ≤ k ∧ k ≤ 9223372036854775807
theorem IntsAt.sub {w : World} {S S' : List Nat} {ka : Option Addr} {ks : List Int} (h : IntsAt w S ka ks) (hs : ∀ b ∈ S', b ∈ S) : IntsAt w S' ka ks := by
  obtain ⟨h2 | ⟨x, o, rfl, hx, hlt, hc⟩⟩ := h
  · exact ⟨.inl h2⟩
  · exact ⟨.inr ⟨x, o, rfl, fun q => hx (hs x q), hlt, hc⟩⟩
theorem IntsAt.base {w0 w : World} {S : List Nat} {ka : Option Addr} {ks : List Int} (h : IntsAt w0 [] ka ks) (hb : Below w0.heap.size w0 w) (hs : ∀ b ∈ S, w0.heap.size ≤ b) : IntsAt w S ka ks := by
  obtain ⟨h2 | ⟨x, o, rfl, -, hlt, hc⟩⟩ := h
  · exact ⟨.inl h2⟩
  · exact ⟨.inr ⟨x, o, rfl, fun q => by have := hs x q; omega, Nat.lt_of_lt_of_le hlt hb.size, fun j hj => by rw [hb.cell (p := ⟨x, o + j, none⟩) hlt]; exact hc j hj⟩⟩
theorem TextAt.base {w0 w : World} {S : List Nat} {a : Option Addr} {len cap : Nat} {t : List Int} (h : TextAt w0 a len cap t) (hb : Below w0.heap.size w0 w) (hs : ∀ b ∈ S, w0.heap.size ≤ b) : TextW w S a len cap t :=
  ⟨h.below hb, fun h0 p hp q => by
    obtain ⟨x, o, rfl, hx, -⟩ := h.at_ h0
    cases hp
    have := hs _ q
    simp only at this
    omega⟩
theorem FailAt.butIn {w w' : World} {S : List Nat} {set : Bool} {af : Int} {kv : Value} (h : FailAt w S set af kv) (hb : FlowB.ButIn S w w') : FailAt w' S set af kv := by
  obtain h | ⟨h1, h2, ka, kc, ks, h3, h4, h5⟩ := h
  · exact .inl h
  · exact .inr ⟨h1, h2, ka, kc, ks, h3, h4.butIn hb, h5⟩
theorem fail_all (w : World) (S : List Nat) (p bb z n : Nat) (B : List Int) (wv : Value) (on set : Bool) (af : Int) (kv : Value) (hd : DkAt w p bb z n B wv on set af kv) (k : Int) (hk : k ≤ 9223372036854775807) (ka : Option Addr) (kc : Nat) (ks : List Int) (hpS : p ∈ S) (hS : ∀ b ∈ S, b < w.heap.size) (hK : IntsAt w S ka ks) (hl : ks.length ≤ 1000) (hn : ka = none → ks = [] ∧ kc = 0) (hw : ∀ k ∈ ks, -9223372036854775808 ≤ k ∧ k ≤ 9223372036854775807) :
    Calls Try.prog 23 #[.pointer (some ⟨p, 0, none⟩), .int .i64 k, .slice ka ks.length kc] w fun e w' => e = .returned (.tuple #[]) ∧ But p w w' ∧ ∃ set' af' kv', DkAt w' p bb z n B wv on set' af' kv' ∧ FailAt w' S set' af' kv' := by
  by_cases h : k < 0
  · refine (fail_none w p z B.length bb wv on set af kv hd.kp k h _).mono ?_
    rintro e w' ⟨rfl, b, k⟩
    exact ⟨rfl, b, _, _, _, ⟨k, b.blk hd.kb (Ne.symm hd.ne), hd.ne, hd.len, hd.z1, hd.z2, hd.n1, hd.n2, hd.small⟩, .inl rfl⟩
  · refine (fail_at w S p bb z n B wv on set af kv hd k (by omega) ka kc ks hpS hS hK hl hn).mono ?_
    rintro e w' ⟨rfl, b, a, c, k, i⟩
    exact ⟨rfl, b, _, _, _, k, .inr ⟨rfl, by omega, a, c, ks, rfl, i, hw⟩⟩
theorem replace_all (w : World) (q p bb z n : Nat) (B : List Int) (set : Bool) (af : Int) (kv : Value) (a0 T : Nat) (tv : Value) (ba : Option Addr) (bn bc : Nat) (b : List Int) (hd : DkAt w p bb z n B (.slice none 0 0) true set af kv) (hF : FailAt w [p, bb, q] set af kv) (hk : Blk w q (slC p a0 T tv false) 88) (hT : TextW w [p, bb, q] ba bn bc b) (hbn : bn + 18 ≤ z) (ha : a0 + 2 ≤ n) (hu : T < 9223372036854775806) (hqp : q ≠ p ∧ q ≠ bb) :
    Calls Try.prog 24 #[.pointer (some ⟨q, 0, none⟩), .slice ba bn bc] w fun e w' => FlowB.ButIn [p, bb, q] w w' ∧
      ((e = .returned (.int .i64 0) ∧ (∃ set' af' kv', DkAt w' p bb z n (putS z (a0 + (T + 1) % 2) (slotB z (T + 1) b) z B) (.slice none 0 0) true set' af' kv' ∧ FailAt w' [p, bb, q] set' af' kv') ∧ ∃ a c, Blk w' q (slC p a0 ((T : Int) + 1) (.slice a bn c) false) 88 ∧ TextAt w' a bn c b ∧ ∀ x : Addr, a = some x → w.heap.size ≤ x.block) ∨
       (e = .returned (.int .i64 9) ∧ ∃ B' set' af' kv', (B' = B ∨ ∃ c, c ≤ z ∧ B' = putS z (a0 + (T + 1) % 2) (slotB z (T + 1) b) c B) ∧ DkAt w' p bb z n B' (.slice none 0 0) false set' af' kv' ∧ Blk w' q (slC p a0 T tv true) 88)) := by
  obtain rfl | ⟨rfl, h2, ka, kc, ks, rfl, h4, h5⟩ := hF
  · refine (replace_okW w q p bb z n B af kv a0 T tv ba bn bc b hd hk hT hbn ha hu hqp).mono ?_
    rintro e w' ⟨h1, h2, h3, h4⟩
    exact ⟨h2, .inl ⟨h1, ⟨_, _, _, h3, .inl rfl⟩, h4⟩⟩
  have hC : ∃ B', B' = crashN z ks [(a0 + (T + 1) % 2, slotB z (T + 1) b)] B 1 ∧ (B' = B ∨ ∃ c, c ≤ z ∧ B' = putS z (a0 + (T + 1) % 2) (slotB z (T + 1) b) c B) := by
    refine ⟨_, rfl, ?_⟩
    simp only [crashN]
    split
    · exact .inr ⟨_, clampZ_le z _, rfl⟩
    · exact .inl rfl
  obtain ⟨B', hB', hB2⟩ := hC
  have h6 := h4.sub (S' := [p, bb]) (by simp)
  by_cases h0 : af ≤ 0
  · refine (replace_hit0W w q p bb z n B af ka kc ks a0 T tv ba bn bc b hd hk hT hbn ha hu hqp h6 h5 h0).mono ?_
    rintro e w' ⟨h1, h2, h3, h4⟩
    rw [← hB'] at h3
    exact ⟨h2, .inr ⟨h1, B', _, _, _, hB2, h3, h4⟩⟩
  by_cases h1 : af = 1
  · refine (replace_hit1W w q p bb z n B af ka kc ks a0 T tv ba bn bc b hd hk hT hbn ha hu hqp h6 h5 h1).mono ?_
    rintro e w' ⟨h1, h2, h3, h4⟩
    rw [← hB'] at h3
    exact ⟨h2, .inr ⟨h1, B', _, _, _, hB2, h3, h4⟩⟩
  refine (replace_countW w q p bb z n B af ka kc ks a0 T tv ba bn bc b hd hk hT hbn ha hu hqp h6 (by omega) h2).mono ?_
  rintro e w' ⟨k1, k2, k3, k4⟩
  exact ⟨k2, .inl ⟨k1, ⟨_, _, _, k3, .inr ⟨rfl, by omega, ka, kc, ks, rfl, h4.butIn k2, h5⟩⟩, k4⟩⟩
theorem crash_all (w : World) (p bb z n : Nat) (B : List Int) (on set : Bool) (af : Int) (kv : Value) (ka : Option Addr) (kc : Nat) (ks : List Int) (hK : IntsAt w [p, bb] ka ks) (hkw : ∀ k ∈ ks, -9223372036854775808 ≤ k ∧ k ≤ 9223372036854775807) (hd : DkAt w p bb z n B (.slice none 0 0) on set af kv) :
    Calls Try.prog 18 #[.pointer (some ⟨p, 0, none⟩), .slice ka ks.length kc] w fun e w' => e = .returned (.tuple #[]) ∧ FlowB.ButIn [p, bb] w w' ∧ DkAt w' p bb z n B (.slice none 0 0) false set af kv := by
  cases on
  · refine (crash_off w p bb z n B _ set af kv _ hd).mono ?_
    rintro e w' ⟨rfl, b⟩
    exact ⟨rfl, ButIn.of_below b, hd.below b⟩
  · exact crash_any w p bb z n B set af kv none 0 [] ka kc ks hK hkw hd (WaitAt.nil _ _ _) (by simp) (by simp)
end Go.Proofs.Ytmpgnpkodapidaa
