/-
  How often a page has been listed: facts that OwnerOne asks. Of no program.
-/
import Derived.Test.YtpbdachbefafiaaOwFacts
namespace Go.Proofs.Ytpbdachbefafiaa
open Go.RowKit
set_option linter.unusedVariables false

section
variable (d : Dr) (m k : Int)
theorem Dr.ofTo_mono {p q : Nat} (h : p ≤ q) : (d.ofTo m k p).length ≤ (d.ofTo m k q).length := by
  induction q with
  | zero => obtain rfl : p = 0 := by omega
            exact Nat.le_refl _
  | succ q ih =>
    by_cases e : p = q + 1
    · rw [e]; exact Nat.le_refl _
    · refine Nat.le_trans (ih (by omega)) ?_
      rw [Dr.ofTo, List.length_append]
      exact Nat.le_add_right _ _
theorem Dr.ofTo_lt {p q : Nat} (h : p < q) (hg : d.is p k m) : (d.ofTo m k p).length < (d.ofTo m k q).length := by
  have := d.ofTo_mono m k (show p + 1 ≤ q from h)
  rw [d.ofTo_yes m k p hg, List.length_append] at this
  exact this
theorem Dr.ofTo_at : ∀ (n : Nat) {p : Nat}, p < n → d.is p k m → (d.ofTo m k n).getD (d.ofTo m k p).length 0 = (p : Int)
  | 0, p, h, _ => absurd h (Nat.not_lt_zero _)
  | n + 1, p, h, hg => by
    by_cases e : p = n
    · subst e
      rw [d.ofTo_yes m k p hg, List.getD_eq_getElem?_getD, List.getElem?_append_right (Nat.le_refl _), Nat.sub_self]
      rfl
    · have h1 : p < n := by omega
      rw [Dr.ofTo, List.getD_eq_getElem?_getD, List.getElem?_append_left (d.ofTo_lt m k h1 hg), ← List.getD_eq_getElem?_getD]
      exact Dr.ofTo_at n h1 hg
theorem Dr.ofTo_get : ∀ (n i : Nat), i < (d.ofTo m k n).length → ∃ p, p < n ∧ d.is p k m ∧ (d.ofTo m k p).length = i
  | 0, i, h => absurd h (Nat.not_lt_zero _)
  | n + 1, i, h => by
    by_cases hg : d.is n k m
    · rw [d.ofTo_yes m k n hg, List.length_append, List.length_singleton] at h
      by_cases e : i = (d.ofTo m k n).length
      · exact ⟨n, Nat.lt_succ_self n, hg, e.symm⟩
      · obtain ⟨p, h1, h2⟩ := Dr.ofTo_get n i (by omega)
        exact ⟨p, by omega, h2⟩
    · rw [d.ofTo_no m k n hg] at h
      obtain ⟨p, h1, h2⟩ := Dr.ofTo_get n i h
      exact ⟨p, by omega, h2⟩
/-- Whether a page has been listed, when i of those of the node m and the kind k have, and all those of what stands ahead. -/
def Dr.lst (m k : Int) (i p : Nat) : Prop := p < d.n ∧ ¬ (d.sp p).k = 0 ∧ ((d.sp p).m < m ∨ (d.sp p).m = m ∧ ((d.sp p).k < k ∨ (d.sp p).k = k ∧ (d.ofTo m k p).length < i))
theorem Dr.lst_start (h : d.ok) (p : Nat) : ¬ d.lst 0 1 0 p := by
  rintro ⟨h1, h2, h3⟩
  have a := h.kind p
  have b := h.node p
  rcases h3 with h3 | ⟨_, h3 | h3⟩ <;> omega
theorem Dr.lst_kind (p : Nat) : d.lst m k (d.ofTo m k d.n).length p ↔ d.lst m (k + 1) 0 p := by
  constructor
  · rintro ⟨h1, h2, h3⟩
    refine ⟨h1, h2, ?_⟩
    rcases h3 with h3 | ⟨e, h3 | ⟨h3, _⟩⟩
    · exact .inl h3
    · exact .inr ⟨e, .inl (by omega)⟩
    · exact .inr ⟨e, .inl (by omega)⟩
  · rintro ⟨h1, h2, h3⟩
    refine ⟨h1, h2, ?_⟩
    rcases h3 with h3 | ⟨e, h3 | ⟨_, h3⟩⟩
    · exact .inl h3
    · right
      refine ⟨e, ?_⟩
      by_cases q : (d.sp p).k = k
      · exact .inr ⟨q, d.ofTo_lt m k h1 ⟨q, e⟩⟩
      · exact .inl (by omega)
    · exact absurd h3 (Nat.not_lt_zero _)
theorem Dr.lst_node (h : d.ok) (p : Nat) : d.lst m 4 0 p ↔ d.lst (m + 1) 1 0 p := by
  have a := h.kind p
  constructor
  · rintro ⟨h1, h2, h3⟩
    refine ⟨h1, h2, .inl ?_⟩
    rcases h3 with h3 | ⟨e, _⟩ <;> omega
  · rintro ⟨h1, h2, h3⟩
    refine ⟨h1, h2, ?_⟩
    rcases h3 with h3 | ⟨e, h3 | ⟨_, h3⟩⟩
    · by_cases q : (d.sp p).m = m
      · exact .inr ⟨q, .inl (by omega)⟩
      · exact .inl (by omega)
    · exact absurd h3 (by omega)
    · exact absurd h3 (Nat.not_lt_zero _)
theorem Dr.lst_end (h : d.ok) (p : Nat) : d.lst 8 1 0 p ↔ (p < d.n ∧ ¬ (d.sp p).k = 0) := by
  have b := h.node p
  constructor
  · rintro ⟨h1, h2, _⟩
    exact ⟨h1, h2⟩
  · rintro ⟨h1, h2⟩
    exact ⟨h1, h2, .inl (by omega)⟩
theorem Dr.lst_one {p i : Nat} (hk : ¬ k = 0) (hp : p < d.n) (hg : d.is p k m) (hi : (d.ofTo m k p).length = i) : ¬ d.lst m k i p ∧ d.lst m k (i + 1) p ∧ ∀ q, q ≠ p → (d.lst m k (i + 1) q ↔ d.lst m k i q) := by
  refine ⟨?_, ?_, fun q hq => ?_⟩
  · rintro ⟨h1, h2, h3⟩
    have e1 := hg.1
    have e2 := hg.2
    rcases h3 with h3 | ⟨e, h3 | ⟨_, h3⟩⟩ <;> omega
  · exact ⟨hp, by rw [hg.1]; exact hk, .inr ⟨hg.2, .inr ⟨hg.1, by omega⟩⟩⟩
  · constructor
    · rintro ⟨h1, h2, h3⟩
      refine ⟨h1, h2, ?_⟩
      rcases h3 with h3 | ⟨e, h3 | ⟨e2, h3⟩⟩
      · exact .inl h3
      · exact .inr ⟨e, .inl h3⟩
      · refine .inr ⟨e, .inr ⟨e2, ?_⟩⟩
        have hne : (d.ofTo m k q).length ≠ i := fun x => by
          rcases Nat.lt_or_gt_of_ne hq with l | l
          · have := d.ofTo_lt m k l ⟨e2, e⟩
            omega
          · have := d.ofTo_lt m k l hg
            omega
        omega
    · rintro ⟨h1, h2, h3⟩
      refine ⟨h1, h2, ?_⟩
      rcases h3 with h3 | ⟨e, h3 | ⟨e2, h3⟩⟩
      · exact .inl h3
      · exact .inr ⟨e, .inl h3⟩
      · exact .inr ⟨e, .inr ⟨e2, by omega⟩⟩
end
/-- A row of 32 numbers: how often each page has been listed. -/
def Cnt (w : World) (g : Nat) (t : TypeId) (P : Nat → Prop) : Prop := ∃ cs, RowAt w g t cs ∧ cs.size = 32 ∧ ∀ j, j < 32 → (P j → cs[j]? = some (.int .i64 1)) ∧ (¬ P j → cs[j]? = some (.int .i64 0))
section
variable {w x : World} {g : Nat} {t : TypeId} {P Q : Nat → Prop}
theorem Cnt.later (h : Cnt w g t P) (q : Below w.heap.size w x) : Cnt x g t P := by
  obtain ⟨cs, a, b⟩ := h
  exact ⟨cs, a.later q, b⟩
theorem Cnt.same (h : Cnt w g t P) (e : ∀ j, P j ↔ Q j) : Cnt w g t Q := by
  obtain ⟨cs, a, b, c⟩ := h
  exact ⟨cs, a, b, fun j hj => ⟨fun q => (c j hj).1 ((e j).2 q), fun q => (c j hj).2 (fun p => q ((e j).1 p))⟩⟩
theorem Cnt.cell0 (h : Cnt w g t P) {j : Nat} (hj : j < 32) (hp : ¬ P j) : w.cell? ⟨g, j, none⟩ = some (.int .i64 0) := by
  obtain ⟨cs, a, b, c⟩ := h
  exact a.cell j _ ((c j hj).2 hp)
theorem Cnt.cell1 (h : Cnt w g t P) {j : Nat} (hj : j < 32) (hp : P j) : w.cell? ⟨g, j, none⟩ = some (.int .i64 1) := by
  obtain ⟨cs, a, b, c⟩ := h
  exact a.cell j _ ((c j hj).1 hp)
theorem Cnt.row (h : Cnt w g t P) : ∃ cs, RowAt w g t cs := by
  obtain ⟨cs, a, b, c⟩ := h
  exact ⟨cs, a⟩
theorem Cnt.put (h : Cnt w g t P) {p : Nat} (hp : p < 32) (h1 : Q p) (h2 : ∀ q, q ≠ p → (Q q ↔ P q)) : Cnt (w.setCell ⟨g, p, none⟩ (.int .i64 1)) g t Q := by
  obtain ⟨cs, a, b, c⟩ := h
  refine ⟨_, a.set p _, by rw [Array.size_setIfInBounds]; exact b, fun j hj => ?_⟩
  by_cases e : j = p
  · rw [e, Array.getElem?_setIfInBounds_self_of_lt (by omega)]
    exact ⟨fun _ => rfl, fun q => absurd h1 q⟩
  · rw [Array.getElem?_setIfInBounds_ne (fun q => e q.symm)]
    exact ⟨fun q => (c j hj).1 ((h2 j e).1 q), fun q => (c j hj).2 (fun r => q ((h2 j e).2 r))⟩
end
end Go.Proofs.Ytpbdachbefafiaa
