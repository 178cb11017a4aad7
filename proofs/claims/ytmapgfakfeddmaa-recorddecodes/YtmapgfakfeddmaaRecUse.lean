/-
  What a record's kind uses: plain facts.
-/
import Derived.Test.YtmapgfakfeddmaaRecMath
namespace Go.Proofs.Ytmapgfakfeddmaa
open Go.RowKit
set_option linter.unusedVariables false

def Rec.uses (r : Rec) : Prop := 1 ≤ r.k ∧ r.k ≤ 8 ∧ (r.k ≤ 6 → 1 ≤ r.t ∧ r.t ≤ 1048575 ∧ r.p < r.l) ∧ (r.k ≤ 2 → r.c.right) ∧ (r.k = 2 → r.n < r.l) ∧ (r.k = 6 → 1 ≤ r.s ∧ r.s ≤ 8) ∧ (r.k = 8 → r.rows)
/-- A record with nothing in it but what its kind uses. -/
def Rec.used (r : Rec) : Rec := ⟨r.k, r.l, if r.k ≤ 6 then r.t else 0, if r.k ≤ 6 then r.p else 0, if r.k ≤ 2 then r.c else Ch.zero, if r.k = 2 then r.n else 0, if r.k = 6 then r.s else 0, if r.k = 8 then r.b else 0, if r.k = 8 then r.ts else [], if r.k = 8 then r.ds else []⟩
theorem right_uses {r : Rec} : r.right ↔ 1 ≤ r.l ∧ r.l ≤ maxP ∧ r.uses ∧ r = r.used := by
  constructor
  · intro h
    refine ⟨h.l1, h.lm, ⟨h.k1, h.k8, h.own, h.ch, h.next, h.save, h.check⟩, ?_⟩
    have h1 := h.none
    have h2 := h.noch
    have h3 := h.nonext
    have h4 := h.nosave
    have h5 := h.nocheck
    obtain ⟨k, l, t, p, c, n, s, b, ts, ds⟩ := r
    simp only at h1 h2 h3 h4 h5
    unfold Rec.used
    simp only [Rec.mk.injEq, true_and]
    refine ⟨?_, ?_, ?_, ?_, ?_, ?_, ?_, ?_⟩
    · by_cases hk : k ≤ 6
      · rw [if_pos hk]
      · rw [if_neg hk]
        exact (h1 (by omega)).1
    · by_cases hk : k ≤ 6
      · rw [if_pos hk]
      · rw [if_neg hk]
        exact (h1 (by omega)).2
    · by_cases hk : k ≤ 2
      · rw [if_pos hk]
      · rw [if_neg hk]
        exact h2 (by omega)
    · by_cases hk : k = 2
      · rw [if_pos hk]
      · rw [if_neg hk]
        exact h3 hk
    · by_cases hk : k = 6
      · rw [if_pos hk]
      · rw [if_neg hk]
        exact h4 hk
    · by_cases hk : k = 8
      · rw [if_pos hk]
      · rw [if_neg hk]
        exact (h5 hk).1
    · by_cases hk : k = 8
      · rw [if_pos hk]
      · rw [if_neg hk]
        exact (h5 hk).2.1
    · by_cases hk : k = 8
      · rw [if_pos hk]
      · rw [if_neg hk]
        exact (h5 hk).2.2
  · rintro ⟨h1, h2, ⟨u1, u2, u3, u4, u5, u6, u7⟩, he⟩
    refine ⟨u1, u2, h1, h2, u3, fun hk => ?_, u4, fun hk => ?_, u5, fun hk => ?_, u6, fun hk => ?_, u7, fun hk => ?_⟩
    · constructor
      · rw [he]
        show (if r.k ≤ 6 then r.t else 0) = 0
        rw [if_neg (by omega)]
      · rw [he]
        show (if r.k ≤ 6 then r.p else 0) = 0
        rw [if_neg (by omega)]
    · rw [he]
      show (if r.k ≤ 2 then r.c else Ch.zero) = Ch.zero
      rw [if_neg (by omega)]
    · rw [he]
      show (if r.k = 2 then r.n else 0) = 0
      rw [if_neg hk]
    · rw [he]
      show (if r.k = 6 then r.s else 0) = 0
      rw [if_neg hk]
    · refine ⟨?_, ?_, ?_⟩
      · rw [he]
        show (if r.k = 8 then r.b else 0) = 0
        rw [if_neg hk]
      · rw [he]
        show (if r.k = 8 then r.ts else []) = []
        rw [if_neg hk]
      · rw [he]
        show (if r.k = 8 then r.ds else []) = []
        rw [if_neg hk]
end Go.Proofs.Ytmapgfakfeddmaa
