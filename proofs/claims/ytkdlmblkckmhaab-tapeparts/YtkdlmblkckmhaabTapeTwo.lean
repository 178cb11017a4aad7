/-
  Two tapes of the code's, apart, that a walk keeps.
-/
import Derived.Test.YtkdlmblkckmhaabTapeBytes
import Derived.Test.YtkdlmblkckmhaabTapeCrash
namespace Go.Proofs.Ytkdlmblkckmhaab
open Go.RowKit
set_option linter.unusedVariables false

structure P8 (w0 w : World) (g h : Nat) (t u : Tp) : Prop where
  ok1 : t.ok
  ok2 : u.ok
  tp : ∃ b c, w0.heap.size ≤ b ∧ w0.heap.size ≤ c ∧ TpAt w g b t ∧ TpAt w h c u ∧ g ≠ h ∧ g ≠ c ∧ b ≠ h ∧ b ≠ c
  low1 : w0.heap.size ≤ g
  low2 : w0.heap.size ≤ h
  bel : Below w0.heap.size w0 w
theorem P8.swap {w0 w : World} {g h : Nat} {t u : Tp} (p : P8 w0 w g h t u) : P8 w0 w h g u t := by
  obtain ⟨b, c, h1, h2, h3, h4, h5, h6, h7, h8⟩ := p.tp
  exact ⟨p.ok2, p.ok1, ⟨c, b, h2, h1, h4, h3, h5.symm, h7.symm, h6.symm, h8.symm⟩, p.low2, p.low1, p.bel⟩
theorem P8.later {w0 w x : World} {g h : Nat} {t u : Tp} (p : P8 w0 w g h t u) (q : Below w.heap.size w x) : P8 w0 x g h t u := by
  obtain ⟨b, c, h1, h2, h3, h4, h5⟩ := p.tp
  exact ⟨p.ok1, p.ok2, ⟨b, c, h1, h2, h3.later q, h4.later q, h5⟩, p.low1, p.low2, p.bel.trans (q.mono p.bel.size)⟩
theorem P8.drew {w0 w : World} {g h : Nat} {t u : Tp} (p : P8 w0 w g h t u) : P8 w0 w.drew g h t u := p.later ⟨rfl, rfl, rfl, Nat.le_refl _, fun _ _ => rfl⟩
theorem P8.turn {w0 w x : World} {g h b b' c : Nat} {t u t' : Tp} (p : P8 w0 w g h t u) (h1 : w0.heap.size ≤ b) (h2 : w0.heap.size ≤ c) (h4 : TpAt w h c u) (h5 : g ≠ h ∧ g ≠ c ∧ b ≠ h ∧ b ≠ c) (ht : t'.ok) (q1 : TpAt x g b' t') (q2 : Turn g b w x) (q3 : b' = b ∨ w.heap.size ≤ b') : P8 w0 x g h t' u := by
  have l := h4.lt
  have hs := p.bel.size
  exact ⟨ht, p.ok2, ⟨b', c, by omega, h2, q1, h4.turn q2 h5.1.symm h5.2.2.1.symm h5.2.1.symm h5.2.2.2.symm, h5.1, h5.2.1, by omega, by omega⟩, p.low1, p.low2, p.bel.trans (q2.below p.low1 h1 hs)⟩
theorem papp8 (w0 w : World) (g h : Nat) (t u : Tp) (p : P8 w0 w g h t u) (ad : Option Addr) (n c : Nat) (bs : List UInt8) (hB : IsB w ad n bs) (hnil : ad = none → c = 0) (hs : n ≤ 70000) :
    Calls Try.prog 6 #[.pointer (some ⟨g, 0, none⟩), .slice ad n c] w fun e w' => e = .returned (.int .i64 (t.app ⟨bs.toArray⟩).2) ∧ P8 w0 w' g h (t.app ⟨bs.toArray⟩).1 u := by
  obtain ⟨b, d, h1, h2, h3, h4, h5⟩ := p.tp
  refine (app8_any g b t ad n c bs w h3 p.ok1 hB hnil hs).mono ?_
  rintro e w' ⟨rfl, b', q1, q2, q3⟩
  exact ⟨rfl, p.turn h1 h2 h4 h5 (t.app_ok p.ok1 _) q1 q2 q3⟩
theorem pcrash8 (w0 w : World) (g h : Nat) (t u : Tp) (p : P8 w0 w g h t u) (n : Int) :
    Calls Try.prog 8 #[.pointer (some ⟨g, 0, none⟩), .int .i64 n] w fun e w' => e = .returned (.tuple #[]) ∧ P8 w0 w' g h (t.crash n) u := by
  obtain ⟨b, d, h1, h2, h3, h4, h5⟩ := p.tp
  exact (crash8_any g b t n w h3 p.ok1).mono fun e w' he => ⟨he.1, p.turn h1 h2 h4 h5 (t.crash_ok p.ok1 n) he.2.1 he.2.2 (.inl rfl)⟩
theorem psynced8 (w0 w : World) (g h : Nat) (t u : Tp) (p : P8 w0 w g h t u) :
    Calls Try.prog 9 #[.pointer (some ⟨g, 0, none⟩)] w fun e w' => e = .returned (.int .i64 (t.f : Int)) ∧ w = w' := by
  obtain ⟨b, d, h1, h2, h3, h4, h5⟩ := p.tp
  exact synced8_any g b t w h3
/-- Bytes, with its text. -/
theorem pbytes8 (w0 w : World) (g h : Nat) (t u : Tp) (p : P8 w0 w g h t u) :
    Calls Try.prog 7 #[.pointer (some ⟨g, 0, none⟩)] w fun e w' => ∃ a c, e = .returned (.slice a t.b.size c) ∧ IsB w' a t.b.size t.b.data.toList ∧ P8 w0 w' g h t u ∧ Below w.heap.size w w' := by
  obtain ⟨b, d, h1, h2, h3, h4, h5⟩ := p.tp
  refine (bytes8_any g b t w h3 p.ok1).mono ?_
  rintro e w' ⟨v, rfl, ho, hb⟩
  obtain ⟨a, c, rfl, -, hB⟩ := shape_isB ho
  exact ⟨a, c, rfl, hB, p.later hb, hb⟩
end Go.Proofs.Ytkdlmblkckmhaab
