/-
  What 'Apply' finds and leaves in memory, and what it answers: of no program's function.
-/
import Derived.Test.YtcehppekcbbaaabChangeMem
import Derived.Test.YtcehppekcbbaaabPageDecMath
namespace Go.Proofs.Ytcehppekcbbaaab
open Go.RowKit
set_option linter.unusedVariables false

/-- What stands at the entry: the page, the change, the result. -/
def AppIn (w : World) (gc gr : Nat) (p : Pg) (c : Ch) (x : World) : Prop :=
  PgAt x w.heap.size p ∧ ChAt x gc c ∧ PgAt x gr Pg.zero ∧ Below w.heap.size w x ∧ w.heap.size < gc ∧ gc < gr
theorem AppIn.later {w x y : World} {gc gr : Nat} {p : Pg} {c : Ch} (h : AppIn w gc gr p c x) (hb : Below x.heap.size x y) : AppIn w gc gr p c y := by
  have l0 : w.heap.size < x.heap.size := (Array.getElem?_eq_some_iff.1 h.1).1
  have l1 := h.2.1.lt
  have l2 : gr < x.heap.size := (Array.getElem?_eq_some_iff.1 h.2.2.1).1
  exact ⟨h.1.below hb l0, h.2.1.below hb l1, h.2.2.1.below hb l2, h.2.2.2.1.trans (hb.mono (Nat.le_of_lt l0)), h.2.2.2.2⟩

theorem app_in (w : World) (p : Pg) (c : Ch) : AppIn w (w.heap.size + 1) (w.heap.size + 1 + 1) p c (((w.alloc (.cells (pgA p) 29)).alloc (.cells (chA c) 34)).alloc (.cells (pgA Pg.zero) 29)) := by
  have e1 : (w.alloc (.cells (pgA p) 29)).heap.size = w.heap.size + 1 := by simp
  have e2 : ((w.alloc (.cells (pgA p) 29)).alloc (.cells (chA c) 34)).heap.size = w.heap.size + 1 + 1 := by simp
  have b1 := (Below.refl w.heap.size w).alloc (Nat.le_refl _) (.cells (pgA p) 29)
  have b2 := (Below.refl _ (w.alloc (.cells (pgA p) 29))).alloc (Nat.le_refl _) (.cells (chA c) 34)
  have b3 := (Below.refl _ ((w.alloc (.cells (pgA p) 29)).alloc (.cells (chA c) 34))).alloc (Nat.le_refl _) (.cells (pgA Pg.zero) 29)
  have r0 : RowAt (w.alloc (.cells (pgA p) 29)) w.heap.size 29 (pgA p) := RowAt.new _ _ _
  have r1 : RowAt ((w.alloc (.cells (pgA p) 29)).alloc (.cells (chA c) 34)) (w.heap.size + 1) 34 (chA c) := by
    have h := RowAt.new (w.alloc (.cells (pgA p) 29)) 34 (chA c)
    rw [e1] at h
    exact h
  have r2 : RowAt (((w.alloc (.cells (pgA p) 29)).alloc (.cells (chA c) 34)).alloc (.cells (pgA Pg.zero) 29)) (w.heap.size + 1 + 1) 29 (pgA Pg.zero) := by
    have h := RowAt.new ((w.alloc (.cells (pgA p) 29)).alloc (.cells (chA c) 34)) 29 (pgA Pg.zero)
    rw [e2] at h
    exact h
  exact ⟨(r0.later b2).later b3, r1.later b3, r2, b1.trans ((b2.mono b1.size).trans (b3.mono (by omega))), by omega, by omega⟩

/-- The page behind the change, in memory. -/
theorem put_mem {w x : World} {gc gr i : Nat} {p : Pg} {c : Ch} (h : AppIn w gc gr p c x) (hi : i < 8) (l : Nat) (u : Bool) (s : ByteArray) :
    PgAt (((x.setCell ⟨w.heap.size, 1 + i * 2, none⟩ (.bool u)).setCell ⟨w.heap.size, 1 + i * 2 + 1, none⟩ (.string s)).setCell ⟨w.heap.size, 0, none⟩ (.int .u64 (l : Int))) w.heap.size (p.put l i u s) ∧
    PgAt (((x.setCell ⟨w.heap.size, 1 + i * 2, none⟩ (.bool u)).setCell ⟨w.heap.size, 1 + i * 2 + 1, none⟩ (.string s)).setCell ⟨w.heap.size, 0, none⟩ (.int .u64 (l : Int))) gr Pg.zero ∧
    Below w.heap.size w (((x.setCell ⟨w.heap.size, 1 + i * 2, none⟩ (.bool u)).setCell ⟨w.heap.size, 1 + i * 2 + 1, none⟩ (.string s)).setCell ⟨w.heap.size, 0, none⟩ (.int .u64 (l : Int))) ∧ w.heap.size < gr := by
  have hg : w.heap.size < gr := by have := h.2.2.2.2; omega
  have h1 := heap_setCell_same x w.heap.size (1 + i * 2) _ _ (.bool u) h.1
  have h2 := heap_setCell_same _ w.heap.size (1 + i * 2 + 1) _ _ (.string s) h1
  rw [pgA_set _ i hi] at h2
  have h3 := heap_setCell_same _ w.heap.size 0 _ _ (.int .u64 (l : Int)) h2
  refine ⟨h3, ((h.2.2.1.other _ _ (by simp; omega)).other _ _ (by simp; omega)).other _ _ (by simp; omega), ?_, hg⟩
  exact ((h.2.2.2.1.setCell (by show w.heap.size ≤ w.heap.size; omega) _).setCell (by show w.heap.size ≤ w.heap.size; omega) _).setCell (by show w.heap.size ≤ w.heap.size; omega) _

/-- What 'Apply' answers, once its arguments are right. -/
theorem app_at (p : Pg) (c : Ch) (l : Nat) (hp : p.right) (hc : c.right) (hl : l ≤ maxP) (hl2 : p.l < l) (i : Nat) (hi : c.at = i) :
    (p.u i = true ∧ c.wantU = false → appE p c l = 6 ∧ appP p c l = Pg.zero) ∧ (p.u i = false ∧ c.wantU = true → appE p c l = 5 ∧ appP p c l = Pg.zero) ∧
    (p.u i = c.wantU → p.s i ≠ c.wantV → appE p c l = 2 ∧ appP p c l = Pg.zero) ∧ (p.u i = c.wantU → p.s i = c.wantV → appE p c l = 0 ∧ appP p c l = p.put l i c.makeU c.makeV) := by
  subst hi
  have hbase : appE p c l = if p.u c.at = true ∧ c.wantU = false then 6 else if p.u c.at = false ∧ c.wantU = true then 5 else if p.s c.at ≠ c.wantV then 2 else 0 := by
    unfold appE
    rw [if_neg (fun h => h ⟨hp, hc, hl⟩), if_neg (by omega)]
  refine ⟨fun h => ?_, fun h => ?_, fun h1 h2 => ?_, fun h1 h2 => ?_⟩
  · have e : appE p c l = 6 := by rw [hbase, if_pos h]
    exact ⟨e, app_no _ _ _ (by rw [e]; decide)⟩
  · have e : appE p c l = 5 := by rw [hbase, if_neg (by rw [h.1]; simp), if_pos h]
    exact ⟨e, app_no _ _ _ (by rw [e]; decide)⟩
  · have e : appE p c l = 2 := by rw [hbase, if_neg (by rw [h1]; intro h; rw [h.1] at h; cases h.2), if_neg (by rw [h1]; intro h; rw [h.1] at h; cases h.2), if_pos h2]
    exact ⟨e, app_no _ _ _ (by rw [e]; decide)⟩
  · have e : appE p c l = 0 := (app_yes p c l).2 ⟨hp, hc, hl, hl2, h1, h2⟩
    exact ⟨e, by unfold appP; rw [if_pos e]⟩
end Go.Proofs.Ytcehppekcbbaaab
