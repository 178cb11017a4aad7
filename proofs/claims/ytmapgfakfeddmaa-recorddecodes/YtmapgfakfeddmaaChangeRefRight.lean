/-
  The contract of quaysideref05.Right.
-/
import Derived.Test.YtmapgfakfeddmaaChMem
namespace Go.Proofs.Ytmapgfakfeddmaa
open Go.RowKit
set_option linter.unusedVariables false

set_option maxRecDepth 4000 in
set_option maxHeartbeats 400000 in
theorem rcright_r1 (c : Ch) (w : World) (h1 : c.pg < 0) :
    Calls Try.prog 27 #[.agg (chA c)] w fun e w' => e = .returned (.bool false) ∧ Below w.heap.size w w' := by
  have hb0 : Below w.heap.size w (w.alloc (.cells (chA c) 24)) := (Below.refl _ _).alloc (Nat.le_refl _) _
  obtain ⟨a0, a1, a2, a3, a4⟩ := ChAt.all (show ChAt (w.alloc (.cells (chA c) 24)) w.heap.size c from heap_alloc_new w _)
  go_enter Try.func27, Try.ntmps27
  generalize c.k = k at *
  generalize c.pg = pg at *
  generalize c.sl = sl at *
  generalize c.o = o at *
  generalize c.n = n at *
  go_wp2
  go_ret
  exact ⟨rfl, hb0⟩

set_option maxRecDepth 4000 in
set_option maxHeartbeats 400000 in
theorem rcright_r2 (c : Ch) (w : World) (h1 : ¬ c.pg < 0) (h2 : 31 < c.pg) :
    Calls Try.prog 27 #[.agg (chA c)] w fun e w' => e = .returned (.bool false) ∧ Below w.heap.size w w' := by
  have hb0 : Below w.heap.size w (w.alloc (.cells (chA c) 24)) := (Below.refl _ _).alloc (Nat.le_refl _) _
  obtain ⟨a0, a1, a2, a3, a4⟩ := ChAt.all (show ChAt (w.alloc (.cells (chA c) 24)) w.heap.size c from heap_alloc_new w _)
  go_enter Try.func27, Try.ntmps27
  generalize c.k = k at *
  generalize c.pg = pg at *
  generalize c.sl = sl at *
  generalize c.o = o at *
  generalize c.n = n at *
  go_wp2
  go_ret
  exact ⟨rfl, hb0⟩

set_option maxRecDepth 4000 in
set_option maxHeartbeats 400000 in
theorem rcright_r3 (c : Ch) (w : World) (h1 : ¬ c.pg < 0) (h2 : ¬ 31 < c.pg) (h3 : c.sl < 0) :
    Calls Try.prog 27 #[.agg (chA c)] w fun e w' => e = .returned (.bool false) ∧ Below w.heap.size w w' := by
  have hb0 : Below w.heap.size w (w.alloc (.cells (chA c) 24)) := (Below.refl _ _).alloc (Nat.le_refl _) _
  obtain ⟨a0, a1, a2, a3, a4⟩ := ChAt.all (show ChAt (w.alloc (.cells (chA c) 24)) w.heap.size c from heap_alloc_new w _)
  go_enter Try.func27, Try.ntmps27
  generalize c.k = k at *
  generalize c.pg = pg at *
  generalize c.sl = sl at *
  generalize c.o = o at *
  generalize c.n = n at *
  go_wp2
  go_ret
  exact ⟨rfl, hb0⟩

set_option maxRecDepth 4000 in
set_option maxHeartbeats 400000 in
theorem rcright_r4 (c : Ch) (w : World) (h1 : ¬ c.pg < 0) (h2 : ¬ 31 < c.pg) (h3 : ¬ c.sl < 0) (h4 : 7 < c.sl) :
    Calls Try.prog 27 #[.agg (chA c)] w fun e w' => e = .returned (.bool false) ∧ Below w.heap.size w w' := by
  have hb0 : Below w.heap.size w (w.alloc (.cells (chA c) 24)) := (Below.refl _ _).alloc (Nat.le_refl _) _
  obtain ⟨a0, a1, a2, a3, a4⟩ := ChAt.all (show ChAt (w.alloc (.cells (chA c) 24)) w.heap.size c from heap_alloc_new w _)
  go_enter Try.func27, Try.ntmps27
  generalize c.k = k at *
  generalize c.pg = pg at *
  generalize c.sl = sl at *
  generalize c.o = o at *
  generalize c.n = n at *
  go_wp2
  go_ret
  exact ⟨rfl, hb0⟩

set_option maxRecDepth 4000 in
set_option maxHeartbeats 400000 in
theorem rcright_r5 (c : Ch) (w : World) (h1 : ¬ c.pg < 0) (h2 : ¬ 31 < c.pg) (h3 : ¬ c.sl < 0) (h4 : ¬ 7 < c.sl) (h5 : 20 < (c.o.size : Int)) :
    Calls Try.prog 27 #[.agg (chA c)] w fun e w' => e = .returned (.bool false) ∧ Below w.heap.size w w' := by
  have hb0 : Below w.heap.size w (w.alloc (.cells (chA c) 24)) := (Below.refl _ _).alloc (Nat.le_refl _) _
  obtain ⟨a0, a1, a2, a3, a4⟩ := ChAt.all (show ChAt (w.alloc (.cells (chA c) 24)) w.heap.size c from heap_alloc_new w _)
  go_enter Try.func27, Try.ntmps27
  generalize c.k = k at *
  generalize c.pg = pg at *
  generalize c.sl = sl at *
  generalize c.o = o at *
  generalize c.n = n at *
  go_wp2
  go_ret
  exact ⟨rfl, hb0⟩

set_option maxRecDepth 4000 in
set_option maxHeartbeats 400000 in
theorem rcright_r6 (c : Ch) (w : World) (h1 : ¬ c.pg < 0) (h2 : ¬ 31 < c.pg) (h3 : ¬ c.sl < 0) (h4 : ¬ 7 < c.sl) (h5 : ¬ 20 < (c.o.size : Int)) (h6 : 20 < (c.n.size : Int)) :
    Calls Try.prog 27 #[.agg (chA c)] w fun e w' => e = .returned (.bool false) ∧ Below w.heap.size w w' := by
  have hb0 : Below w.heap.size w (w.alloc (.cells (chA c) 24)) := (Below.refl _ _).alloc (Nat.le_refl _) _
  obtain ⟨a0, a1, a2, a3, a4⟩ := ChAt.all (show ChAt (w.alloc (.cells (chA c) 24)) w.heap.size c from heap_alloc_new w _)
  go_enter Try.func27, Try.ntmps27
  generalize c.k = k at *
  generalize c.pg = pg at *
  generalize c.sl = sl at *
  generalize c.o = o at *
  generalize c.n = n at *
  go_wp2
  go_ret
  exact ⟨rfl, hb0⟩

set_option maxRecDepth 4000 in
set_option maxHeartbeats 400000 in
theorem rcright_k1y (c : Ch) (w : World) (h1 : ¬ c.pg < 0) (h2 : ¬ 31 < c.pg) (h3 : ¬ c.sl < 0) (h4 : ¬ 7 < c.sl) (h5 : ¬ 20 < (c.o.size : Int)) (h6 : ¬ 20 < (c.n.size : Int)) (hk : c.k = 1) (he : c.o.toList.isEmpty = true) :
    Calls Try.prog 27 #[.agg (chA c)] w fun e w' => e = .returned (.bool true) ∧ Below w.heap.size w w' := by
  have hb0 : Below w.heap.size w (w.alloc (.cells (chA c) 24)) := (Below.refl _ _).alloc (Nat.le_refl _) _
  obtain ⟨a0, a1, a2, a3, a4⟩ := ChAt.all (show ChAt (w.alloc (.cells (chA c) 24)) w.heap.size c from heap_alloc_new w _)
  rw [hk] at a0
  clear hk
  go_enter Try.func27, Try.ntmps27
  generalize c.k = k at *
  generalize c.pg = pg at *
  generalize c.sl = sl at *
  generalize c.o = o at *
  generalize c.n = n at *
  go_wp2
  go_ret
  exact ⟨rfl, hb0⟩

set_option maxRecDepth 4000 in
set_option maxHeartbeats 400000 in
theorem rcright_k1n (c : Ch) (w : World) (h1 : ¬ c.pg < 0) (h2 : ¬ 31 < c.pg) (h3 : ¬ c.sl < 0) (h4 : ¬ 7 < c.sl) (h5 : ¬ 20 < (c.o.size : Int)) (h6 : ¬ 20 < (c.n.size : Int)) (hk : c.k = 1) (he : c.o.toList.isEmpty = false) :
    Calls Try.prog 27 #[.agg (chA c)] w fun e w' => e = .returned (.bool false) ∧ Below w.heap.size w w' := by
  have hb0 : Below w.heap.size w (w.alloc (.cells (chA c) 24)) := (Below.refl _ _).alloc (Nat.le_refl _) _
  obtain ⟨a0, a1, a2, a3, a4⟩ := ChAt.all (show ChAt (w.alloc (.cells (chA c) 24)) w.heap.size c from heap_alloc_new w _)
  rw [hk] at a0
  clear hk
  go_enter Try.func27, Try.ntmps27
  generalize c.k = k at *
  generalize c.pg = pg at *
  generalize c.sl = sl at *
  generalize c.o = o at *
  generalize c.n = n at *
  go_wp2
  go_ret
  exact ⟨rfl, hb0⟩

set_option maxRecDepth 4000 in
set_option maxHeartbeats 400000 in
theorem rcright_k2 (c : Ch) (w : World) (h1 : ¬ c.pg < 0) (h2 : ¬ 31 < c.pg) (h3 : ¬ c.sl < 0) (h4 : ¬ 7 < c.sl) (h5 : ¬ 20 < (c.o.size : Int)) (h6 : ¬ 20 < (c.n.size : Int)) (hk : c.k = 2) :
    Calls Try.prog 27 #[.agg (chA c)] w fun e w' => e = .returned (.bool true) ∧ Below w.heap.size w w' := by
  have hb0 : Below w.heap.size w (w.alloc (.cells (chA c) 24)) := (Below.refl _ _).alloc (Nat.le_refl _) _
  obtain ⟨a0, a1, a2, a3, a4⟩ := ChAt.all (show ChAt (w.alloc (.cells (chA c) 24)) w.heap.size c from heap_alloc_new w _)
  rw [hk] at a0
  clear hk
  go_enter Try.func27, Try.ntmps27
  generalize c.k = k at *
  generalize c.pg = pg at *
  generalize c.sl = sl at *
  generalize c.o = o at *
  generalize c.n = n at *
  go_wp2
  go_ret
  exact ⟨rfl, hb0⟩

set_option maxRecDepth 4000 in
set_option maxHeartbeats 400000 in
theorem rcright_k3y (c : Ch) (w : World) (h1 : ¬ c.pg < 0) (h2 : ¬ 31 < c.pg) (h3 : ¬ c.sl < 0) (h4 : ¬ 7 < c.sl) (h5 : ¬ 20 < (c.o.size : Int)) (h6 : ¬ 20 < (c.n.size : Int)) (hk : c.k = 3) (he : c.n.toList.isEmpty = true) :
    Calls Try.prog 27 #[.agg (chA c)] w fun e w' => e = .returned (.bool true) ∧ Below w.heap.size w w' := by
  have hb0 : Below w.heap.size w (w.alloc (.cells (chA c) 24)) := (Below.refl _ _).alloc (Nat.le_refl _) _
  obtain ⟨a0, a1, a2, a3, a4⟩ := ChAt.all (show ChAt (w.alloc (.cells (chA c) 24)) w.heap.size c from heap_alloc_new w _)
  rw [hk] at a0
  clear hk
  go_enter Try.func27, Try.ntmps27
  generalize c.k = k at *
  generalize c.pg = pg at *
  generalize c.sl = sl at *
  generalize c.o = o at *
  generalize c.n = n at *
  go_wp2
  go_ret
  exact ⟨rfl, hb0⟩

set_option maxRecDepth 4000 in
set_option maxHeartbeats 400000 in
theorem rcright_k3n (c : Ch) (w : World) (h1 : ¬ c.pg < 0) (h2 : ¬ 31 < c.pg) (h3 : ¬ c.sl < 0) (h4 : ¬ 7 < c.sl) (h5 : ¬ 20 < (c.o.size : Int)) (h6 : ¬ 20 < (c.n.size : Int)) (hk : c.k = 3) (he : c.n.toList.isEmpty = false) :
    Calls Try.prog 27 #[.agg (chA c)] w fun e w' => e = .returned (.bool false) ∧ Below w.heap.size w w' := by
  have hb0 : Below w.heap.size w (w.alloc (.cells (chA c) 24)) := (Below.refl _ _).alloc (Nat.le_refl _) _
  obtain ⟨a0, a1, a2, a3, a4⟩ := ChAt.all (show ChAt (w.alloc (.cells (chA c) 24)) w.heap.size c from heap_alloc_new w _)
  rw [hk] at a0
  clear hk
  go_enter Try.func27, Try.ntmps27
  generalize c.k = k at *
  generalize c.pg = pg at *
  generalize c.sl = sl at *
  generalize c.o = o at *
  generalize c.n = n at *
  go_wp2
  go_ret
  exact ⟨rfl, hb0⟩

set_option maxRecDepth 4000 in
set_option maxHeartbeats 400000 in
theorem rcright_k0 (c : Ch) (w : World) (h1 : ¬ c.pg < 0) (h2 : ¬ 31 < c.pg) (h3 : ¬ c.sl < 0) (h4 : ¬ 7 < c.sl) (h5 : ¬ 20 < (c.o.size : Int)) (h6 : ¬ 20 < (c.n.size : Int)) (hk1 : (c.k == 1) = false) (hk2 : (c.k == 2) = false) (hk3 : (c.k == 3) = false) :
    Calls Try.prog 27 #[.agg (chA c)] w fun e w' => e = .returned (.bool false) ∧ Below w.heap.size w w' := by
  have hb0 : Below w.heap.size w (w.alloc (.cells (chA c) 24)) := (Below.refl _ _).alloc (Nat.le_refl _) _
  obtain ⟨a0, a1, a2, a3, a4⟩ := ChAt.all (show ChAt (w.alloc (.cells (chA c) 24)) w.heap.size c from heap_alloc_new w _)
  go_enter Try.func27, Try.ntmps27
  generalize c.k = k at *
  generalize c.pg = pg at *
  generalize c.sl = sl at *
  generalize c.o = o at *
  generalize c.n = n at *
  go_wp2
  go_ret
  exact ⟨rfl, hb0⟩

/-- THE CONTRACT. -/
theorem rcright_any (c : Ch) (w : World) :
    Calls Try.prog 27 #[.agg (chA c)] w fun e w' => e = .returned (.bool (decide c.right)) ∧ Below w.heap.size w w' := by
  by_cases h1 : c.pg < 0
  · rw [decide_eq_false (fun h => by have := h.1; omega)]
    exact rcright_r1 c w h1
  by_cases h2 : 31 < c.pg
  · rw [decide_eq_false (fun h => by have := h.1; omega)]
    exact rcright_r2 c w h1 h2
  by_cases h3 : c.sl < 0
  · rw [decide_eq_false (fun h => by have := h.1; omega)]
    exact rcright_r3 c w h1 h2 h3
  by_cases h4 : 7 < c.sl
  · rw [decide_eq_false (fun h => by have := h.1; omega)]
    exact rcright_r4 c w h1 h2 h3 h4
  by_cases h5 : 20 < (c.o.size : Int)
  · rw [decide_eq_false (fun h => by have := h.1; omega)]
    exact rcright_r5 c w h1 h2 h3 h4 h5
  by_cases h6 : 20 < (c.n.size : Int)
  · rw [decide_eq_false (fun h => by have := h.1; omega)]
    exact rcright_r6 c w h1 h2 h3 h4 h5 h6
  have hr : c.kindOk → c.right := fun h => ⟨⟨by omega, by omega, by omega, by omega, by omega, by omega⟩, h⟩
  by_cases k1 : c.k = 1
  · by_cases he : c.o.toList.isEmpty = true
    · rw [decide_eq_true (hr (.inl ⟨k1, (empty_iff _).1 he⟩))]
      exact rcright_k1y c w h1 h2 h3 h4 h5 h6 k1 he
    · rw [decide_eq_false (fun h => by
        rcases h.2 with h | h | h
        · exact he ((empty_iff _).2 h.2)
        · omega
        · omega)]
      exact rcright_k1n c w h1 h2 h3 h4 h5 h6 k1 (by simpa using he)
  by_cases k2 : c.k = 2
  · rw [decide_eq_true (hr (.inr (.inl k2)))]
    exact rcright_k2 c w h1 h2 h3 h4 h5 h6 k2
  by_cases k3 : c.k = 3
  · by_cases he : c.n.toList.isEmpty = true
    · rw [decide_eq_true (hr (.inr (.inr ⟨k3, (empty_iff _).1 he⟩)))]
      exact rcright_k3y c w h1 h2 h3 h4 h5 h6 k3 he
    · rw [decide_eq_false (fun h => by
        rcases h.2 with h | h | h
        · omega
        · omega
        · exact he ((empty_iff _).2 h.2))]
      exact rcright_k3n c w h1 h2 h3 h4 h5 h6 k3 (by simpa using he)
  rw [decide_eq_false (fun h => by rcases h.2 with h | h | h <;> omega)]
  exact rcright_k0 c w h1 h2 h3 h4 h5 h6 (by simpa using k1) (by simpa using k2) (by simpa using k3)
end Go.Proofs.Ytmapgfakfeddmaa
