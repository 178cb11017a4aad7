/-
  The code's tape keeps to the form that the statements' walks lean on.
-/
import Derived.Test.YtkdlmblkckmhaaaTapeCut
import Derived.Test.YtkdlmblkckmhaaaTapeCrash
import Derived.Test.YtkdlmblkckmhaaaTapeForm
namespace Go.Proofs.Ytkdlmblkckmhaaa
open Go.RowKit
set_option linter.unusedVariables false

/-- The code's tape, with its bytes in a row that is as new as it. -/
def TB (gt B : Nat) (w : World) (t : Tp) : Prop := ∃ gb, B ≤ gb ∧ TpAt w gt gb t

theorem Kc.turn {B gt gb : Nat} {w x : World} {t : Tp} (h : TpAt w gt gb t) (hB : B ≤ w.heap.size) (h1 : B ≤ gt) (h2 : B ≤ gb) (p : Turn gt gb w x) : Kc B w x :=
  ⟨p.below h1 h2 hB, fun k t cs n1 n2 hr => by
    obtain ⟨q1, q2⟩ := h.apart hr n1 n2
    exact p.row hr q1 q2⟩
theorem cd8 (gt gr B : Nat) (hgt : B ≤ gt) : Cd gt gr B (TB gt B) where
  drew := fun x t ⟨gb, hb, h⟩ => ⟨gb, hb, h.keep rfl rfl⟩
  fresh := fun x y t ⟨gb, hb, h⟩ p => ⟨gb, hb, h.later p⟩
  other := fun x y t u ⟨gb, hb, h⟩ hr p => by
    obtain ⟨q1, q2⟩ := h.apart hr (by decide) (by decide)
    exact ⟨gb, hb, h.keep (p.block _ h.lt.1 (fun e => q1 e.symm)) (p.block _ h.lt.2 (fun e => q2 e.symm))⟩
  app := fun x t a n cap bs ⟨gb, hb, h⟩ ok hB hnil hn => by
    have hs : B ≤ x.heap.size := Nat.le_of_lt (Nat.lt_of_le_of_lt hgt h.lt.1)
    refine (app8_any gt gb t a n cap bs x h ok hB hnil hn).mono ?_
    rintro e x' ⟨rfl, gb', h1, h2, h3⟩
    exact ⟨rfl, ⟨gb', by omega, h1⟩, Kc.turn h hs hgt hb h2⟩
  sync := fun x t ⟨gb, hb, h⟩ ok => by
    have hs : B ≤ x.heap.size := Nat.le_of_lt (Nat.lt_of_le_of_lt hgt h.lt.1)
    exact (sync8_any gt gb t x h).mono fun e x' he => ⟨he.1, ⟨gb, hb, he.2.1⟩, Kc.turn h hs hgt hb he.2.2⟩
  cut := fun x t n ⟨gb, hb, h⟩ ok hn => by
    have hs : B ≤ x.heap.size := Nat.le_of_lt (Nat.lt_of_le_of_lt hgt h.lt.1)
    exact (cut8_any gt gb t n x h ok).mono fun e x' he => ⟨he.1, ⟨gb, hb, he.2.1⟩, Kc.turn h hs hgt hb he.2.2⟩
  chop := fun x t n ⟨gb, hb, h⟩ ok hn => by
    have hs : B ≤ x.heap.size := Nat.le_of_lt (Nat.lt_of_le_of_lt hgt h.lt.1)
    exact (chop8_any gt gb t n x h ok).mono fun e x' he => ⟨he.1, ⟨gb, hb, he.2.1⟩, Kc.turn h hs hgt hb he.2.2⟩
  crash := fun x t n ⟨gb, hb, h⟩ ok hn => by
    have hs : B ≤ x.heap.size := Nat.le_of_lt (Nat.lt_of_le_of_lt hgt h.lt.1)
    exact (crash8_any gt gb t n x h ok).mono fun e x' he => ⟨he.1, ⟨gb, hb, he.2.1⟩, Kc.turn h hs hgt hb he.2.2⟩
  len := fun x t ⟨gb, hb, h⟩ ok => by
    refine (len8_any gt gb t x h).mono ?_
    rintro e x' ⟨rfl, rfl⟩
    exact ⟨rfl, ⟨gb, hb, h⟩, Kc.refl _ _⟩
  synced := fun x t ⟨gb, hb, h⟩ ok => by
    refine (synced8_any gt gb t x h).mono ?_
    rintro e x' ⟨rfl, rfl⟩
    exact ⟨rfl, ⟨gb, hb, h⟩, Kc.refl _ _⟩
  start := fun x t ⟨gb, hb, h⟩ ok => by
    refine (start8_any gt gb t x h).mono ?_
    rintro e x' ⟨rfl, rfl⟩
    exact ⟨rfl, ⟨gb, hb, h⟩, Kc.refl _ _⟩
  room := fun x t ⟨gb, hb, h⟩ ok => by
    refine (room8_any gt gb t x h).mono ?_
    rintro e x' ⟨rfl, rfl⟩
    exact ⟨rfl, ⟨gb, hb, h⟩, Kc.refl _ _⟩
  bytes := fun x t ⟨gb, hb, h⟩ ok => by
    have hs : B ≤ x.heap.size := Nat.le_of_lt (Nat.lt_of_le_of_lt hgt h.lt.1)
    refine (bytes8_any gt gb t x h ok).mono ?_
    rintro e x' ⟨v, rfl, h1, h2⟩
    exact ⟨v, rfl, h1, ⟨gb, hb, h.later h2⟩, Kc.later hs h2, h2⟩
end Go.Proofs.Ytkdlmblkckmhaaa
