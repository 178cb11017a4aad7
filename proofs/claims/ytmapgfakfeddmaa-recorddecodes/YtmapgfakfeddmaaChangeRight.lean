/-
  The contracts of package change's Right and of what it calls.
-/
import Derived.Test.YtmapgfakfeddmaaChMem
namespace Go.Proofs.Ytmapgfakfeddmaa
open Go.RowKit
set_option linter.unusedVariables false

/-- A page and a slot that can be. -/
abbrev placeOk (pg sl : Int) : Prop := 0 ≤ pg ∧ pg ≤ 31 ∧ 0 ≤ sl ∧ sl ≤ 7

set_option maxHeartbeats 400000 in
theorem place_at (pg sl : Int) (w : World) (r : Bool) (Hr : Hid (decide (placeOk pg sl) = r)) :
    Calls Try.prog 56 #[.int .i64 pg, .int .i64 sl] w fun e w' => e = .returned (.bool r) ∧ w = w' := by
  by_cases h1 : 0 ≤ pg
  · by_cases h2 : pg < 32
    · by_cases h3 : 0 ≤ sl
      · by_cases h4 : sl < 8
        · obtain rfl : r = true := by rw [← Hr.out]; exact decide_eq_true ⟨h1, by omega, h3, by omega⟩
          clear Hr
          go_enter Try.func56, Try.ntmps56
          go_wp2
          go_ret
          exact ⟨rfl, rfl⟩
        · obtain rfl : r = false := by rw [← Hr.out]; exact decide_eq_false (fun h => by omega)
          clear Hr
          go_enter Try.func56, Try.ntmps56
          go_wp2
          go_ret
          exact ⟨rfl, rfl⟩
      · obtain rfl : r = false := by rw [← Hr.out]; exact decide_eq_false (fun h => by omega)
        clear Hr
        go_enter Try.func56, Try.ntmps56
        go_wp2
        go_ret
        exact ⟨rfl, rfl⟩
    · obtain rfl : r = false := by rw [← Hr.out]; exact decide_eq_false (fun h => by omega)
      clear Hr
      go_enter Try.func56, Try.ntmps56
      go_wp2
      go_ret
      exact ⟨rfl, rfl⟩
  · obtain rfl : r = false := by rw [← Hr.out]; exact decide_eq_false (fun h => by omega)
    clear Hr
    go_enter Try.func56, Try.ntmps56
    go_wp2
    go_ret
    exact ⟨rfl, rfl⟩
theorem place_any (pg sl : Int) (w : World) :
    Calls Try.prog 56 #[.int .i64 pg, .int .i64 sl] w fun e w' => e = .returned (.bool (decide (placeOk pg sl))) ∧ w = w' := place_at pg sl w _ (hide rfl)

set_option maxHeartbeats 400000 in
theorem kind_at (c : Ch) (w : World) (r : Bool) (Hr : Hid (decide c.kindOk = r)) :
    Calls Try.prog 57 #[.agg (chA c)] w fun e w' => e = .returned (.bool r) ∧ Below w.heap.size w w' := by
  have hb0 : Below w.heap.size w (w.alloc (.cells (chA c) 24)) := (Below.refl _ _).alloc (Nat.le_refl _) _
  obtain ⟨a0, a1, a2, a3, a4⟩ := ChAt.all (show ChAt (w.alloc (.cells (chA c) 24)) w.heap.size c from heap_alloc_new w _)
  clear a1 a2
  by_cases k1 : c.k = 1
  · obtain rfl : c.o.toList.isEmpty = r := by
      rw [← Hr.out, Bool.eq_iff_iff, empty_iff, decide_eq_true_eq]
      exact ⟨fun h => .inl ⟨k1, h⟩, fun h => by rcases h with h | h | h <;> omega⟩
    rw [k1] at a0
    clear Hr k1
    go_enter Try.func57, Try.ntmps57
    generalize c.o = o at *
    go_wp2
    go_ret
    exact ⟨rfl, hb0⟩
  · by_cases k3 : c.k = 3
    · obtain rfl : c.n.toList.isEmpty = r := by
        rw [← Hr.out, Bool.eq_iff_iff, empty_iff, decide_eq_true_eq]
        exact ⟨fun h => .inr (.inr ⟨k3, h⟩), fun h => by rcases h with h | h | h <;> omega⟩
      rw [k3] at a0
      clear Hr k1 k3
      go_enter Try.func57, Try.ntmps57
      generalize c.n = n at *
      go_wp2
      go_ret
      exact ⟨rfl, hb0⟩
    · by_cases k2 : c.k = 2
      · obtain rfl : r = true := by rw [← Hr.out]; exact decide_eq_true (.inr (.inl k2))
        rw [k2] at a0
        clear Hr k1 k2 k3
        go_enter Try.func57, Try.ntmps57
        go_wp2
        go_ret
        exact ⟨rfl, hb0⟩
      · obtain rfl : r = false := by
          rw [← Hr.out]
          exact decide_eq_false (fun h => by rcases h with h | h | h <;> omega)
        have j1 : (c.k == 1) = false := by simpa using k1
        have j2 : (c.k == 2) = false := by simpa using k2
        have j3 : (c.k == 3) = false := by simpa using k3
        clear Hr k1 k2 k3
        go_enter Try.func57, Try.ntmps57
        generalize c.k = k at *
        go_wp2
        go_ret
        exact ⟨rfl, hb0⟩
theorem kind_any (c : Ch) (w : World) :
    Calls Try.prog 57 #[.agg (chA c)] w fun e w' => e = .returned (.bool (decide c.kindOk)) ∧ Below w.heap.size w w' := kind_at c w _ (hide rfl)

set_option maxRecDepth 4000 in
set_option maxHeartbeats 400000 in
theorem cright_at (c : Ch) (w : World) (r : Bool) (Hr : Hid (decide c.right = r)) :
    Calls Try.prog 40 #[.agg (chA c)] w fun e w' => e = .returned (.bool r) ∧ Below w.heap.size w w' := by
  have hb0 : Below w.heap.size w (w.alloc (.cells (chA c) 24)) := (Below.refl _ _).alloc (Nat.le_refl _) _
  have hc0 : ChAt (w.alloc (.cells (chA c) 24)) w.heap.size c := heap_alloc_new w _
  obtain ⟨a0, a1, a2, a3, a4⟩ := hc0.all
  have HC := hide hc0
  clear a0 hc0
  by_cases hpl : placeOk c.pg c.sl
  · have HP := hide (fun w => place_at c.pg c.sl w true (hide (decide_eq_true hpl)))
    by_cases h1 : (c.o.size : Int) ≤ 20
    · by_cases h2 : (c.n.size : Int) ≤ 20
      · have HK := hide (fun w => kind_at c w r (hide (by
          rw [← Hr.out]
          exact decide_eq_decide.2 ⟨fun h => ⟨⟨hpl.1, hpl.2.1, hpl.2.2.1, hpl.2.2.2, by omega, by omega⟩, h⟩, fun h => h.2⟩)))
        clear Hr hpl
        go_enter Try.func40, Try.ntmps40
        go_wp2_with fail
        refine (HP.out _).mono ?_
        rintro e w1 ⟨rfl, rfl⟩
        go_wp2_with (refine wpList_load_at rfl 24 (.tmp 1) rfl w.heap.size rfl (chA c) HC.out _ Try.underlying24 rfl infoCh ?_)
        refine (HK.out _).mono ?_
        rintro e w2 ⟨rfl, hb2⟩
        have d2 := hb0.trans (hb2.mono hb0.size)
        clear hb2 HC HK HP a1 a2 a3 a4 hb0 h1 h2
        go_wp2
        go_ret
        exact ⟨rfl, d2⟩
      · obtain rfl : r = false := by rw [← Hr.out]; exact decide_eq_false (fun h => by have := h.1; omega)
        clear Hr hpl
        go_enter Try.func40, Try.ntmps40
        go_wp2_with fail
        refine (HP.out _).mono ?_
        rintro e w1 ⟨rfl, rfl⟩
        clear HP
        go_wp2
        go_ret
        exact ⟨rfl, hb0⟩
    · obtain rfl : r = false := by rw [← Hr.out]; exact decide_eq_false (fun h => by have := h.1; omega)
      clear Hr hpl
      go_enter Try.func40, Try.ntmps40
      go_wp2_with fail
      refine (HP.out _).mono ?_
      rintro e w1 ⟨rfl, rfl⟩
      clear HP
      go_wp2
      go_ret
      exact ⟨rfl, hb0⟩
  · have HP := hide (fun w => place_at c.pg c.sl w false (hide (decide_eq_false hpl)))
    obtain rfl : r = false := by rw [← Hr.out]; exact decide_eq_false (fun h => hpl ⟨h.1.1, h.1.2.1, h.1.2.2.1, h.1.2.2.2.1⟩)
    clear Hr hpl
    go_enter Try.func40, Try.ntmps40
    go_wp2_with fail
    refine (HP.out _).mono ?_
    rintro e w1 ⟨rfl, rfl⟩
    clear HP
    go_wp2
    go_ret
    exact ⟨rfl, hb0⟩

/-- THE CONTRACT. -/
theorem cright_any (c : Ch) (w : World) :
    Calls Try.prog 40 #[.agg (chA c)] w fun e w' => e = .returned (.bool (decide c.right)) ∧ Below w.heap.size w w' := cright_at c w _ (hide rfl)
end Go.Proofs.Ytmapgfakfeddmaa
