/-
  Plain facts on changes of cells, of no program.
-/
import Derived.Test.YtmapgfakfeddmaaPageMath
namespace Go.Proofs.Ytmapgfakfeddmaa
open Go.RowKit
set_option linter.unusedVariables false

/-- A change: its kind, page and slot, the old and the new value. -/
structure Ch where
  k : Int
  pg : Int
  sl : Int
  o : ByteArray
  n : ByteArray
def Ch.zero : Ch := ⟨0, 0, 0, ⟨#[]⟩, ⟨#[]⟩⟩
/-- Its cells in memory. -/
def chA (c : Ch) : Array Value := #[.int .i64 c.k, .int .i64 c.pg, .int .i64 c.sl, .string c.o, .string c.n]

/-- A change that can be. -/
abbrev Ch.kindOk (c : Ch) : Prop := c.k = 1 ∧ c.o.size = 0 ∨ c.k = 2 ∨ c.k = 3 ∧ c.n.size = 0
abbrev Ch.right (c : Ch) : Prop := (0 ≤ c.pg ∧ c.pg ≤ 31 ∧ 0 ≤ c.sl ∧ c.sl ≤ 7 ∧ c.o.size ≤ 20 ∧ c.n.size ≤ 20) ∧ c.kindOk

/-- The cell that a change wants, and the one that it makes. -/
def Ch.wantU (c : Ch) : Bool := decide (c.k ≠ 1)
def Ch.wantV (c : Ch) : ByteArray := if c.k = 1 then ⟨#[]⟩ else c.o
def Ch.makeU (c : Ch) : Bool := decide (c.k ≠ 3)
def Ch.makeV (c : Ch) : ByteArray := if c.k = 3 then ⟨#[]⟩ else c.n
def Ch.at (c : Ch) : Nat := c.sl.toNat

/-- A page with one cell made anew. -/
def Pg.put (p : Pg) (l i : Nat) (u : Bool) (s : ByteArray) : Pg := ⟨l, fun j => if j = i then u else p.u j, fun j => if j = i then s else p.s j⟩

/-- What 'Apply' answers. -/
def appE (p : Pg) (c : Ch) (l : Nat) : Int :=
  if ¬ (p.right ∧ c.right ∧ l ≤ maxP) then 1 else if l ≤ p.l then 13
  else if p.u c.at = true ∧ c.wantU = false then 6 else if p.u c.at = false ∧ c.wantU = true then 5
  else if p.s c.at ≠ c.wantV then 2 else 0
def appP (p : Pg) (c : Ch) (l : Nat) : Pg := if appE p c l = 0 then p.put l c.at c.makeU c.makeV else Pg.zero

/-- What 'Inverse' answers. -/
def invE (c : Ch) : Int := if c.right then 0 else 1
def invC (c : Ch) : Ch := if c.right then ⟨4 - c.k, c.pg, c.sl, c.n, c.o⟩ else Ch.zero

/-- What 'Of' answers. -/
def rawC (pg sl : Int) (fu : Bool) (fv : ByteArray) (tu : Bool) (tv : ByteArray) : Ch := ⟨if tu = false then 3 else if fu = false then 1 else 2, pg, sl, fv, tv⟩
def ofE (pg sl : Int) (fu : Bool) (fv : ByteArray) (tu : Bool) (tv : ByteArray) : Int :=
  if (fu = false ∧ fv.size ≠ 0) ∨ (tu = false ∧ tv.size ≠ 0) then 1 else if ¬ (rawC pg sl fu fv tu tv).right then 1 else if fu = false ∧ tu = false then 5 else 0
def ofC (pg sl : Int) (fu : Bool) (fv : ByteArray) (tu : Bool) (tv : ByteArray) : Ch := if ofE pg sl fu fv tu tv = 0 then rawC pg sl fu fv tu tv else Ch.zero

theorem app_no (p : Pg) (c : Ch) (l : Nat) (h : appE p c l ≠ 0) : appP p c l = Pg.zero := by unfold appP; rw [if_neg h]

/-- What stands behind an Apply that is done. -/
theorem app_yes (p : Pg) (c : Ch) (l : Nat) : appE p c l = 0 ↔ p.right ∧ c.right ∧ l ≤ maxP ∧ p.l < l ∧ p.u c.at = c.wantU ∧ p.s c.at = c.wantV := by
  unfold appE
  constructor
  · intro h
    split at h
    · cases h
    · rename_i h1
      have h1 : p.right ∧ c.right ∧ l ≤ maxP := Decidable.of_not_not h1
      split at h
      · cases h
      · rename_i h2
        split at h
        · cases h
        · rename_i h3
          split at h
          · cases h
          · rename_i h4
            split at h
            · cases h
            · rename_i h5
              refine ⟨h1.1, h1.2.1, h1.2.2, by omega, ?_, Decidable.of_not_not h5⟩
              cases hu : p.u c.at <;> cases hw : c.wantU <;> simp_all
  · rintro ⟨h1, h2, h3, h4, h5, h6⟩
    rw [if_neg (fun h => h ⟨h1, h2, h3⟩), if_neg (by omega), if_neg (by rw [h5]; intro h; rw [h.1] at h; cases h.2), if_neg (by rw [h5]; intro h; rw [h.1] at h; cases h.2), if_neg (by rw [h6]; simp)]

theorem size0 (s : ByteArray) (h : s.size = 0) : s = ⟨#[]⟩ := by
  obtain ⟨⟨l⟩⟩ := s
  have : l = [] := List.eq_nil_of_length_eq_zero h
  subst this
  rfl

theorem Ch.right.at_lt {c : Ch} (h : c.right) : c.at < 8 := by
  have h1 := h.1
  unfold Ch.at
  omega

/-- A page behind a change is right. -/
theorem put_right (p : Pg) (c : Ch) (l : Nat) (hp : p.right) (hc : c.right) (hl : l ≤ maxP) : (p.put l c.at c.makeU c.makeV).right := by
  refine ⟨hl, fun i hi => ?_⟩
  show cellOk (if i = c.at then c.makeU else p.u i) (if i = c.at then c.makeV else p.s i)
  by_cases h : i = c.at
  · rw [if_pos h, if_pos h]
    have h1 := hc.1
    refine ⟨?_, ?_⟩
    · unfold Ch.makeV
      split
      · show (0 : Nat) ≤ 20
        omega
      · exact h1.2.2.2.2.2
    · unfold Ch.makeU Ch.makeV
      intro hk
      have : c.k = 3 := by simpa using hk
      rw [if_pos this]
      rfl
  · rw [if_neg h, if_neg h]
    exact hp.2 i hi

/-- The inverse is right, wants what the change makes, and makes what it wants. -/
theorem inv_right (c : Ch) (h : c.right) : (invC c).right ∧ (invC c).at = c.at ∧ (invC c).wantU = c.makeU ∧ (invC c).wantV = c.makeV ∧ (invC c).makeU = c.wantU ∧ (invC c).makeV = c.wantV ∧ (invC c).sl = c.sl := by
  have e : invC c = ⟨4 - c.k, c.pg, c.sl, c.n, c.o⟩ := by unfold invC; rw [if_pos h]
  rw [e]
  obtain ⟨h1, h2⟩ := h
  refine ⟨⟨⟨h1.1, h1.2.1, h1.2.2.1, h1.2.2.2.1, h1.2.2.2.2.2, h1.2.2.2.2.1⟩, ?_⟩, rfl, ?_, ?_, ?_, ?_, rfl⟩
  · unfold Ch.kindOk at h2 ⊢
    rcases h2 with ⟨h3, h4⟩ | h3 | ⟨h3, h4⟩
    · exact .inr (.inr ⟨by show 4 - c.k = 3; omega, h4⟩)
    · exact .inr (.inl (by show 4 - c.k = 2; omega))
    · exact .inl ⟨by show 4 - c.k = 1; omega, h4⟩
  · unfold Ch.wantU Ch.makeU
    exact decide_eq_decide.2 (by show 4 - c.k ≠ 1 ↔ c.k ≠ 3; omega)
  · unfold Ch.wantV Ch.makeV
    by_cases hk : c.k = 3
    · rw [if_pos hk, if_pos (by show 4 - c.k = 1; omega)]
    · rw [if_neg hk, if_neg (by show ¬ 4 - c.k = 1; omega)]
  · unfold Ch.wantU Ch.makeU
    exact decide_eq_decide.2 (by show 4 - c.k ≠ 3 ↔ c.k ≠ 1; omega)
  · unfold Ch.wantV Ch.makeV
    by_cases hk : c.k = 1
    · rw [if_pos hk, if_pos (by show 4 - c.k = 3; omega)]
    · rw [if_neg hk, if_neg (by show ¬ 4 - c.k = 3; omega)]

/-- Cells that a change puts: those of the page behind it. -/
theorem put_at (p : Pg) (l i : Nat) (u : Bool) (s : ByteArray) : (p.put l i u s).u i = u ∧ (p.put l i u s).s i = s := by
  unfold Pg.put
  simp
theorem put_other (p : Pg) (l i j : Nat) (u : Bool) (s : ByteArray) (h : j ≠ i) : (p.put l i u s).u j = p.u j ∧ (p.put l i u s).s j = p.s j := by
  unfold Pg.put
  simp [h]
end Go.Proofs.Ytmapgfakfeddmaa
