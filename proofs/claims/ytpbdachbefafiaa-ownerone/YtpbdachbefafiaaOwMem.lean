/-
  A directory in memory: its block, and the row of its spots. The code's and the document's lie alike.
-/
import Derived.Test.YtpbdachbefafiaaOwMath
import Derived.Test.YtpbdachbefafiaaFoot
namespace Go.Proofs.Ytpbdachbefafiaa
open Go.RowKit
set_option linter.unusedVariables false

/-- The row of the spots. -/
structure SpB (cs : Array Value) (d : Dr) : Prop where
  size : 2 * d.n ≤ cs.size
  c0 : ∀ i, i < d.n → cs[i * 2]? = some (.int .i64 (d.sp i).k)
  c1 : ∀ i, i < d.n → cs[i * 2 + 1]? = some (.int .i64 (d.sp i).m)
theorem SpB.one {cs : Array Value} {d : Dr} (h : SpB cs d) {i : Nat} (hi : i < d.n) (x : Int) : SpB (cs.setIfInBounds (i * 2) (.int .i64 x)) (d.set i ⟨x, (d.sp i).m⟩) := by
  have hs := h.size
  refine ⟨by rw [Array.size_setIfInBounds]; exact h.size, fun j hj => ?_, fun j hj => ?_⟩
  · by_cases e : j = i
    · rw [e, Array.getElem?_setIfInBounds_self_of_lt (by omega), Dr.set_same]
    · rw [Array.getElem?_setIfInBounds_ne (by omega), Dr.set_ne _ _ _ _ e]
      exact h.c0 j hj
  · rw [Array.getElem?_setIfInBounds_ne (by omega)]
    by_cases e : j = i
    · rw [e, Dr.set_same]
      exact h.c1 i hi
    · rw [Dr.set_ne _ _ _ _ e]
      exact h.c1 j hj
theorem SpB.two {cs : Array Value} {d : Dr} (h : SpB cs d) {i : Nat} (hi : i < d.n) (s : Sp) : SpB ((cs.setIfInBounds (i * 2) (.int .i64 s.k)).setIfInBounds (i * 2 + 1) (.int .i64 s.m)) (d.set i s) := by
  have hs := h.size
  refine ⟨by rw [Array.size_setIfInBounds, Array.size_setIfInBounds]; exact h.size, fun j hj => ?_, fun j hj => ?_⟩
  · rw [Array.getElem?_setIfInBounds_ne (by omega)]
    by_cases e : j = i
    · rw [e, Array.getElem?_setIfInBounds_self_of_lt (by omega), Dr.set_same]
    · rw [Array.getElem?_setIfInBounds_ne (by omega), Dr.set_ne _ _ _ _ e]
      exact h.c0 j hj
  · by_cases e : j = i
    · rw [e, Array.getElem?_setIfInBounds_self_of_lt (by rw [Array.size_setIfInBounds]; omega), Dr.set_same]
    · rw [Array.getElem?_setIfInBounds_ne (by omega), Array.getElem?_setIfInBounds_ne (by omega), Dr.set_ne _ _ _ _ e]
      exact h.c1 j hj
/-- A directory: its block g, the row gr of its spots. -/
def DAt (tp ts : TypeId) (w : World) (g gr : Nat) (d : Dr) : Prop :=
  ∃ cap cs, RowAt w g tp #[.slice (some ⟨gr, 0, none⟩) d.n cap] ∧ RowAt w gr ts cs ∧ SpB cs d ∧ d.n ≤ cap ∧ cap ≤ maxLen ∧ tp ≠ ts ∧ d.n ≤ 32
section
variable {tp ts : TypeId} {w x : World} {g gr : Nat} {d : Dr}
theorem DAt.keep (h : DAt tp ts w g gr d) (h1 : x.heap[g]? = w.heap[g]?) (h2 : x.heap[gr]? = w.heap[gr]?) : DAt tp ts x g gr d := by
  obtain ⟨cap, cs, a, b, c⟩ := h
  exact ⟨cap, cs, h1.trans a, h2.trans b, c⟩
theorem DAt.lt (h : DAt tp ts w g gr d) : g < w.heap.size ∧ gr < w.heap.size := by
  obtain ⟨cap, cs, a, b, c⟩ := h
  exact ⟨a.lt, b.lt⟩
theorem DAt.later (h : DAt tp ts w g gr d) (q : Below w.heap.size w x) : DAt tp ts x g gr d := h.keep (q.block _ h.lt.1) (q.block _ h.lt.2)
theorem DAt.drewN (h : DAt tp ts w g gr d) (n : Nat) : DAt tp ts (w.drewN n) g gr d := h.keep rfl rfl
theorem DAt.drew (h : DAt tp ts w g gr d) : DAt tp ts w.drew g gr d := h.keep rfl rfl
theorem DAt.apart (h : DAt tp ts w g gr d) : g ≠ gr := by
  obtain ⟨cap, cs, a, b, c⟩ := h
  intro e
  subst e
  exact c.2.2.2.1 (row_kind a b)
theorem DAt.few (h : DAt tp ts w g gr d) : d.n ≤ 32 := by
  obtain ⟨cap, cs, a, b, c⟩ := h
  exact c.2.2.2.2
/-- What other blocks' turning leaves. -/
theorem DAt.turn {F : Nat → Prop} (h : DAt tp ts w g gr d) (q : Tn F w x) (h1 : ¬ F g) (h2 : ¬ F gr) : DAt tp ts x g gr d := h.keep (q.block _ h.lt.1 h1) (q.block _ h.lt.2 h2)
theorem DAt.one (h : DAt tp ts w g gr d) {i : Nat} (hi : i < d.n) (y : Int) : DAt tp ts (w.setCell ⟨gr, i * 2, none⟩ (.int .i64 y)) g gr (d.set i ⟨y, (d.sp i).m⟩) := by
  have hne := h.apart
  obtain ⟨cap, cs, a, b, c, e⟩ := h
  exact ⟨cap, _, a.other _ _ hne, b.set _ _, c.one hi y, e⟩
theorem DAt.two (h : DAt tp ts w g gr d) {i : Nat} (hi : i < d.n) (s : Sp) : DAt tp ts ((w.setCell ⟨gr, i * 2, none⟩ (.int .i64 s.k)).setCell ⟨gr, i * 2 + 1, none⟩ (.int .i64 s.m)) g gr (d.set i s) := by
  have hne := h.apart
  obtain ⟨cap, cs, a, b, c, e⟩ := h
  exact ⟨cap, _, (a.other _ _ hne).other _ _ hne, (b.set _ _).set _ _, c.two hi s, e⟩
theorem DAt.head (h : DAt tp ts w g gr d) : ∃ cap, w.cell? ⟨g, 0, none⟩ = some (.slice (some ⟨gr, 0, none⟩) d.n cap) ∧ d.n ≤ cap ∧ cap ≤ maxLen := by
  obtain ⟨cap, cs, a, b, c, e⟩ := h
  exact ⟨cap, a.cell 0 _ rfl, e.1, e.2.1⟩
theorem DAt.cell (h : DAt tp ts w g gr d) {i : Nat} (hi : i < d.n) : w.cell? ⟨gr, i * 2, none⟩ = some (.int .i64 (d.sp i).k) ∧ w.cell? ⟨gr, i * 2 + 1, none⟩ = some (.int .i64 (d.sp i).m) := by
  obtain ⟨cap, cs, a, b, c, e⟩ := h
  exact ⟨b.cell _ _ (c.c0 i hi), b.cell _ _ (c.c1 i hi)⟩
theorem DAt.free (h : DAt tp ts w g gr d) (j : Nat) : w.frozen? ⟨gr, j, none⟩ = false := by
  obtain ⟨cap, cs, a, b, c, e⟩ := h
  exact b.free j
theorem DAt.kinds (h : DAt tp ts w g gr d) : ∃ cs ds, RowAt w g tp cs ∧ RowAt w gr ts ds := by
  obtain ⟨cap, cs, a, b, c, e⟩ := h
  exact ⟨_, _, a, b⟩
end
end Go.Proofs.Ytpbdachbefafiaa
