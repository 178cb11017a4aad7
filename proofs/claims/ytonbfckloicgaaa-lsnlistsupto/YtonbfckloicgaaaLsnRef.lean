/-
  The contracts of quaysideref03's clock and of its Rises.
-/
import Derived.Test.YtonbfckloicgaaaLsnMath
import Derived.Test.YtonbfckloicgaaaProg
import Derived.WalkSpells
import Derived.Laws.OwnMore
namespace Go.Proofs.Ytonbfckloicgaaa
open Go.RowKit
set_option linter.unusedVariables false

/-- The document's clock in memory. -/
def RAt (w : World) (b n : Nat) : Prop := w.heap[b]? = some (.cells #[.int .u64 n] 29 (0, 0))
theorem RAt.cell {w : World} {b n : Nat} (h : RAt w b n) : w.cell? ⟨b, 0, none⟩ = some (.int .u64 n) := by
  rw [cell_of_row w b 0 _ _ (0, 0) h]
  simp
theorem RAt.free {w : World} {b n : Nat} (h : RAt w b n) : w.frozen? ⟨b, 0, none⟩ = false := frozen_of_row w b 0 _ _ h
theorem RAt.set {w : World} {b n : Nat} (h : RAt w b n) (m : Nat) : RAt (w.setCell ⟨b, 0, none⟩ (.int .u64 m)) b m := by
  have h1 := heap_setCell_same w b 0 _ _ (.int .u64 m) h
  rw [RAt, h1]
  simp
theorem grown_set (w : World) (b : Nat) (v : Value) : w.grownBy (w.setCell ⟨b, 0, none⟩ v) (some b) :=
  ⟨rfl, rfl, rfl, by simp, fun k _ hk => heap_setCell_other w ⟨b, 0, none⟩ k v (fun e => hk (by simp [e]))⟩
theorem grown_refl (w : World) (b : Nat) : w.grownBy w (some b) := ⟨rfl, rfl, rfl, Nat.le_refl _, fun _ _ _ => rfl⟩

set_option maxHeartbeats 400000 in
theorem rleast_any (a b : Nat) (w : World) :
    Calls Try.prog 21 #[.int .u64 a, .int .u64 b] w fun e w' => e = .returned (.int .u64 (min a b : Nat)) ∧ w = w' := by
  by_cases h : a < b
  · have h1 : (a : Int) < (b : Int) := by omega
    have e : min a b = a := by omega
    rw [e]
    clear e
    go_enter Try.func21, Try.ntmps21
    go_wp2
    go_ret
    exact ⟨rfl, rfl⟩
  · have h1 : ¬ (a : Int) < (b : Int) := by omega
    have e : min a b = b := by omega
    rw [e]
    clear e
    go_enter Try.func21, Try.ntmps21
    go_wp2
    go_ret
    exact ⟨rfl, rfl⟩

set_option maxHeartbeats 400000 in
theorem rsee_any (b n l : Nat) (w : World) (h : RAt w b n) :
    Calls Try.prog 11 #[.pointer (some ⟨b, 0, none⟩), .int .u64 l] w fun e w' => e = .returned (.tuple #[]) ∧ RAt w' b (max n (min l maxL)) ∧ w.grownBy w' (some b) := by
  have hc := h.cell
  have hf := h.free
  have L := rleast_any l 4611686018427387904 w
  have em : min l 4611686018427387904 = min l maxL := rfl
  rw [em] at L
  obtain ⟨m, hm⟩ : ∃ m, m = min l maxL := ⟨_, rfl⟩
  rw [← hm] at L
  rw [← hm]
  have HL := hideL L
  clear L em hm
  by_cases h1 : n < m
  · have h2 : (n : Int) < (m : Int) := by omega
    have e : max n m = m := by omega
    rw [e]
    have HS := hideL (h.set m)
    clear e h
    go_enter Try.func11, Try.ntmps11
    go_wp2_with fail
    refine HL.out.mono ?_
    rintro e w1 ⟨rfl, rfl⟩
    go_wp2
    go_end0
    exact ⟨rfl, HS.out, grown_set _ _ _⟩
  · have h2 : ¬ (n : Int) < (m : Int) := by omega
    have e : max n m = n := by omega
    rw [e]
    have HS := hideL h
    clear e h
    go_enter Try.func11, Try.ntmps11
    go_wp2_with fail
    refine HL.out.mono ?_
    rintro e w1 ⟨rfl, rfl⟩
    go_wp2
    go_end0
    exact ⟨rfl, HS.out, grown_refl _ _⟩

theorem full_iff (n f : Nat) (s : Bool) : full n f s = true ↔ (maxL ≤ max n f ∨ (s = false ∧ topL ≤ max n f)) := by
  cases s <;> simp [full]

set_option maxHeartbeats 400000 in
theorem rnext_full (b n f : Nat) (s : Bool) (w : World) (h : RAt w b n) (hf : f < 18446744073709551616) (hn : n < 18446744073709551616) (hm : maxL ≤ max n f ∨ (s = false ∧ topL ≤ max n f)) :
    Calls Try.prog 14 #[.pointer (some ⟨b, 0, none⟩), .int .u64 f, .bool s] w fun e w' => e = .returned (.tuple #[.int .u64 0, .int .i64 7]) ∧ w = w' := by
  have hc := h.cell
  have e1 : maxL = 4611686018427387904 := rfl
  have e2 : topL = 4611686018427322368 := rfl
  rw [e1, e2] at hm
  clear e1 e2 h
  by_cases hfn : n < f
  · have h1 : (n : Int) < (f : Int) := by omega
    have hmx : max n f = f := by omega
    rw [hmx] at hm
    clear hmx
    by_cases hM : (4611686018427387904 : Int) ≤ (f : Int)
    · clear hm
      go_enter Try.func14, Try.ntmps14
      go_wp2
      go_ret2
      exact ⟨rfl, rfl⟩
    · obtain ⟨rfl, hT⟩ : s = false ∧ 4611686018427322368 ≤ f := by rcases hm with h | h; omega; exact h
      have hT2 : (4611686018427322368 : Int) ≤ (f : Int) := by omega
      clear hm
      go_enter Try.func14, Try.ntmps14
      go_wp2
      go_ret2
      exact ⟨rfl, rfl⟩
  · have h1 : ¬ (n : Int) < (f : Int) := by omega
    have hmx : max n f = n := by omega
    rw [hmx] at hm
    clear hmx
    by_cases hM : (4611686018427387904 : Int) ≤ (n : Int)
    · clear hm
      go_enter Try.func14, Try.ntmps14
      go_wp2
      go_ret2
      exact ⟨rfl, rfl⟩
    · obtain ⟨rfl, hT⟩ : s = false ∧ 4611686018427322368 ≤ n := by rcases hm with h | h; omega; exact h
      have hT2 : (4611686018427322368 : Int) ≤ (n : Int) := by omega
      clear hm
      go_enter Try.func14, Try.ntmps14
      go_wp2
      go_ret2
      exact ⟨rfl, rfl⟩

set_option maxHeartbeats 800000 in
theorem rnext_gives (b n f : Nat) (s : Bool) (w : World) (h : RAt w b n) (hm : ¬ (maxL ≤ max n f ∨ (s = false ∧ topL ≤ max n f))) :
    Calls Try.prog 14 #[.pointer (some ⟨b, 0, none⟩), .int .u64 f, .bool s] w fun e w' => e = .returned (.tuple #[.int .u64 ((max n f + 1 : Nat) : Int), .int .i64 0]) ∧ RAt w' b (max n f + 1) ∧ w.grownBy w' (some b) := by
  have hc := h.cell
  have hfz := h.free
  have e1 : maxL = 4611686018427387904 := rfl
  have e2 : topL = 4611686018427322368 := rfl
  rw [e1, e2] at hm
  clear e1 e2
  by_cases hfn : n < f
  · have h1 : (n : Int) < (f : Int) := by omega
    have hmx : max n f = f := by omega
    rw [hmx] at hm ⊢
    have HS := hideL (h.set (f + 1))
    have hM : ¬ (4611686018427387904 : Int) ≤ (f : Int) := by omega
    clear hmx h
    cases s
    · have hT : ¬ (4611686018427322368 : Int) ≤ (f : Int) := fun hx => hm (Or.inr ⟨rfl, by omega⟩)
      clear hm
      go_enter Try.func14, Try.ntmps14
      go_wp2
      go_ret2
      exact ⟨rfl, HS.out, grown_set _ _ _⟩
    · clear hm
      go_enter Try.func14, Try.ntmps14
      go_wp2
      go_ret2
      exact ⟨rfl, HS.out, grown_set _ _ _⟩
  · have h1 : ¬ (n : Int) < (f : Int) := by omega
    have hmx : max n f = n := by omega
    rw [hmx] at hm ⊢
    have HS := hideL (h.set (n + 1))
    have hM : ¬ (4611686018427387904 : Int) ≤ (n : Int) := by omega
    clear hmx h
    cases s
    · have hT : ¬ (4611686018427322368 : Int) ≤ (n : Int) := fun hx => hm (Or.inr ⟨rfl, by omega⟩)
      clear hm
      go_enter Try.func14, Try.ntmps14
      go_wp2
      go_ret2
      exact ⟨rfl, HS.out, grown_set _ _ _⟩
    · clear hm
      go_enter Try.func14, Try.ntmps14
      go_wp2
      go_ret2
      exact ⟨rfl, HS.out, grown_set _ _ _⟩

theorem rnext_any (b n f : Nat) (s : Bool) (w : World) (h : RAt w b n) (hn : n ≤ maxL) (hf : f < 18446744073709551616) :
    Calls Try.prog 14 #[.pointer (some ⟨b, 0, none⟩), .int .u64 f, .bool s] w fun e w' => e = .returned (.tuple #[.int .u64 (nextS n f s).1, .int .i64 (nextS n f s).2]) ∧ RAt w' b (nextN n f s) ∧ w.grownBy w' (some b) := by
  by_cases hm : maxL ≤ max n f ∨ (s = false ∧ topL ≤ max n f)
  · have e : full n f s = true := (full_iff n f s).2 hm
    have e1 : nextS n f s = (0, 7) := by simp [nextS, e]
    have e2 : nextN n f s = n := by simp [nextN, e]
    rw [e1, e2]
    refine (rnext_full b n f s w h hf (by unfold maxL at hn; omega) hm).mono ?_
    rintro e w' ⟨rfl, rfl⟩
    exact ⟨rfl, h, grown_refl _ _⟩
  · have e : full n f s = false := by
      cases hx : full n f s
      · rfl
      · exact absurd ((full_iff n f s).1 hx) hm
    have e1 : nextS n f s = (((max n f + 1 : Nat) : Int), 0) := by simp [nextS, e]
    have e2 : nextN n f s = max n f + 1 := by simp [nextN, e]
    rw [e1, e2]
    exact rnext_gives b n f s w h hm
end Go.Proofs.Ytonbfckloicgaaa
