/-
  Texts that lean on one another, one behind the other: each opens with its own remark.
-/
import Derived.Test.YtbnlkfcaahgpmaaK00

/-
  The contract of quaysideref05.Right.
-/
namespace Go.Proofs.Ytbnlkfcaahgpmaa
open Go.RowKit
set_option linter.unusedVariables false

set_option maxRecDepth 4000 in
set_option maxHeartbeats 400000 in
theorem rcright_r1 (c : Ch) (w : World) (h1 : c.pg < 0) :
    Calls Try.prog 45 #[.agg (chA c)] w fun e w' => e = .returned (.bool false) ∧ Below w.heap.size w w' := by
  have hb0 : Below w.heap.size w (w.alloc (.cells (chA c) 26)) := (Below.refl _ _).alloc (Nat.le_refl _) _
  obtain ⟨a0, a1, a2, a3, a4⟩ := ChAt.all (show ChAt (w.alloc (.cells (chA c) 26)) w.heap.size c from heap_alloc_new w _)
  go_enter Try.func45, Try.ntmps45
  generalize c.k = k at *
  generalize c.pg = pg at *
  generalize c.sl = sl at *
  generalize c.o = o at *
  generalize c.n = n at *
  go_wp2
  go_ret
  exact ⟨rfl, hb0⟩

set_option maxRecDepth 4000 in
set_option maxHeartbeats 400000 in
theorem rcright_r2 (c : Ch) (w : World) (h1 : ¬ c.pg < 0) (h2 : 31 < c.pg) :
    Calls Try.prog 45 #[.agg (chA c)] w fun e w' => e = .returned (.bool false) ∧ Below w.heap.size w w' := by
  have hb0 : Below w.heap.size w (w.alloc (.cells (chA c) 26)) := (Below.refl _ _).alloc (Nat.le_refl _) _
  obtain ⟨a0, a1, a2, a3, a4⟩ := ChAt.all (show ChAt (w.alloc (.cells (chA c) 26)) w.heap.size c from heap_alloc_new w _)
  go_enter Try.func45, Try.ntmps45
  generalize c.k = k at *
  generalize c.pg = pg at *
  generalize c.sl = sl at *
  generalize c.o = o at *
  generalize c.n = n at *
  go_wp2
  go_ret
  exact ⟨rfl, hb0⟩

set_option maxRecDepth 4000 in
set_option maxHeartbeats 400000 in
theorem rcright_r3 (c : Ch) (w : World) (h1 : ¬ c.pg < 0) (h2 : ¬ 31 < c.pg) (h3 : c.sl < 0) :
    Calls Try.prog 45 #[.agg (chA c)] w fun e w' => e = .returned (.bool false) ∧ Below w.heap.size w w' := by
  have hb0 : Below w.heap.size w (w.alloc (.cells (chA c) 26)) := (Below.refl _ _).alloc (Nat.le_refl _) _
  obtain ⟨a0, a1, a2, a3, a4⟩ := ChAt.all (show ChAt (w.alloc (.cells (chA c) 26)) w.heap.size c from heap_alloc_new w _)
  go_enter Try.func45, Try.ntmps45
  generalize c.k = k at *
  generalize c.pg = pg at *
  generalize c.sl = sl at *
  generalize c.o = o at *
  generalize c.n = n at *
  go_wp2
  go_ret
  exact ⟨rfl, hb0⟩

set_option maxRecDepth 4000 in
set_option maxHeartbeats 400000 in
theorem rcright_r4 (c : Ch) (w : World) (h1 : ¬ c.pg < 0) (h2 : ¬ 31 < c.pg) (h3 : ¬ c.sl < 0) (h4 : 7 < c.sl) :
    Calls Try.prog 45 #[.agg (chA c)] w fun e w' => e = .returned (.bool false) ∧ Below w.heap.size w w' := by
  have hb0 : Below w.heap.size w (w.alloc (.cells (chA c) 26)) := (Below.refl _ _).alloc (Nat.le_refl _) _
  obtain ⟨a0, a1, a2, a3, a4⟩ := ChAt.all (show ChAt (w.alloc (.cells (chA c) 26)) w.heap.size c from heap_alloc_new w _)
  go_enter Try.func45, Try.ntmps45
  generalize c.k = k at *
  generalize c.pg = pg at *
  generalize c.sl = sl at *
  generalize c.o = o at *
  generalize c.n = n at *
  go_wp2
  go_ret
  exact ⟨rfl, hb0⟩

set_option maxRecDepth 4000 in
set_option maxHeartbeats 400000 in
theorem rcright_r5 (c : Ch) (w : World) (h1 : ¬ c.pg < 0) (h2 : ¬ 31 < c.pg) (h3 : ¬ c.sl < 0) (h4 : ¬ 7 < c.sl) (h5 : 20 < (c.o.size : Int)) :
    Calls Try.prog 45 #[.agg (chA c)] w fun e w' => e = .returned (.bool false) ∧ Below w.heap.size w w' := by
  have hb0 : Below w.heap.size w (w.alloc (.cells (chA c) 26)) := (Below.refl _ _).alloc (Nat.le_refl _) _
  obtain ⟨a0, a1, a2, a3, a4⟩ := ChAt.all (show ChAt (w.alloc (.cells (chA c) 26)) w.heap.size c from heap_alloc_new w _)
  go_enter Try.func45, Try.ntmps45
  generalize c.k = k at *
  generalize c.pg = pg at *
  generalize c.sl = sl at *
  generalize c.o = o at *
  generalize c.n = n at *
  go_wp2
  go_ret
  exact ⟨rfl, hb0⟩

set_option maxRecDepth 4000 in
set_option maxHeartbeats 400000 in
theorem rcright_r6 (c : Ch) (w : World) (h1 : ¬ c.pg < 0) (h2 : ¬ 31 < c.pg) (h3 : ¬ c.sl < 0) (h4 : ¬ 7 < c.sl) (h5 : ¬ 20 < (c.o.size : Int)) (h6 : 20 < (c.n.size : Int)) :
    Calls Try.prog 45 #[.agg (chA c)] w fun e w' => e = .returned (.bool false) ∧ Below w.heap.size w w' := by
  have hb0 : Below w.heap.size w (w.alloc (.cells (chA c) 26)) := (Below.refl _ _).alloc (Nat.le_refl _) _
  obtain ⟨a0, a1, a2, a3, a4⟩ := ChAt.all (show ChAt (w.alloc (.cells (chA c) 26)) w.heap.size c from heap_alloc_new w _)
  go_enter Try.func45, Try.ntmps45
  generalize c.k = k at *
  generalize c.pg = pg at *
  generalize c.sl = sl at *
  generalize c.o = o at *
  generalize c.n = n at *
  go_wp2
  go_ret
  exact ⟨rfl, hb0⟩

set_option maxRecDepth 4000 in
set_option maxHeartbeats 400000 in
theorem rcright_k1y (c : Ch) (w : World) (h1 : ¬ c.pg < 0) (h2 : ¬ 31 < c.pg) (h3 : ¬ c.sl < 0) (h4 : ¬ 7 < c.sl) (h5 : ¬ 20 < (c.o.size : Int)) (h6 : ¬ 20 < (c.n.size : Int)) (hk : c.k = 1) (he : c.o.toList.isEmpty = true) :
    Calls Try.prog 45 #[.agg (chA c)] w fun e w' => e = .returned (.bool true) ∧ Below w.heap.size w w' := by
  have hb0 : Below w.heap.size w (w.alloc (.cells (chA c) 26)) := (Below.refl _ _).alloc (Nat.le_refl _) _
  obtain ⟨a0, a1, a2, a3, a4⟩ := ChAt.all (show ChAt (w.alloc (.cells (chA c) 26)) w.heap.size c from heap_alloc_new w _)
  rw [hk] at a0
  clear hk
  go_enter Try.func45, Try.ntmps45
  generalize c.k = k at *
  generalize c.pg = pg at *
  generalize c.sl = sl at *
  generalize c.o = o at *
  generalize c.n = n at *
  go_wp2
  go_ret
  exact ⟨rfl, hb0⟩

set_option maxRecDepth 4000 in
set_option maxHeartbeats 400000 in
theorem rcright_k1n (c : Ch) (w : World) (h1 : ¬ c.pg < 0) (h2 : ¬ 31 < c.pg) (h3 : ¬ c.sl < 0) (h4 : ¬ 7 < c.sl) (h5 : ¬ 20 < (c.o.size : Int)) (h6 : ¬ 20 < (c.n.size : Int)) (hk : c.k = 1) (he : c.o.toList.isEmpty = false) :
    Calls Try.prog 45 #[.agg (chA c)] w fun e w' => e = .returned (.bool false) ∧ Below w.heap.size w w' := by
  have hb0 : Below w.heap.size w (w.alloc (.cells (chA c) 26)) := (Below.refl _ _).alloc (Nat.le_refl _) _
  obtain ⟨a0, a1, a2, a3, a4⟩ := ChAt.all (show ChAt (w.alloc (.cells (chA c) 26)) w.heap.size c from heap_alloc_new w _)
  rw [hk] at a0
  clear hk
  go_enter Try.func45, Try.ntmps45
  generalize c.k = k at *
  generalize c.pg = pg at *
  generalize c.sl = sl at *
  generalize c.o = o at *
  generalize c.n = n at *
  go_wp2
  go_ret
  exact ⟨rfl, hb0⟩

set_option maxRecDepth 4000 in
set_option maxHeartbeats 400000 in
theorem rcright_k2 (c : Ch) (w : World) (h1 : ¬ c.pg < 0) (h2 : ¬ 31 < c.pg) (h3 : ¬ c.sl < 0) (h4 : ¬ 7 < c.sl) (h5 : ¬ 20 < (c.o.size : Int)) (h6 : ¬ 20 < (c.n.size : Int)) (hk : c.k = 2) :
    Calls Try.prog 45 #[.agg (chA c)] w fun e w' => e = .returned (.bool true) ∧ Below w.heap.size w w' := by
  have hb0 : Below w.heap.size w (w.alloc (.cells (chA c) 26)) := (Below.refl _ _).alloc (Nat.le_refl _) _
  obtain ⟨a0, a1, a2, a3, a4⟩ := ChAt.all (show ChAt (w.alloc (.cells (chA c) 26)) w.heap.size c from heap_alloc_new w _)
  rw [hk] at a0
  clear hk
  go_enter Try.func45, Try.ntmps45
  generalize c.k = k at *
  generalize c.pg = pg at *
  generalize c.sl = sl at *
  generalize c.o = o at *
  generalize c.n = n at *
  go_wp2
  go_ret
  exact ⟨rfl, hb0⟩

set_option maxRecDepth 4000 in
set_option maxHeartbeats 400000 in
theorem rcright_k3y (c : Ch) (w : World) (h1 : ¬ c.pg < 0) (h2 : ¬ 31 < c.pg) (h3 : ¬ c.sl < 0) (h4 : ¬ 7 < c.sl) (h5 : ¬ 20 < (c.o.size : Int)) (h6 : ¬ 20 < (c.n.size : Int)) (hk : c.k = 3) (he : c.n.toList.isEmpty = true) :
    Calls Try.prog 45 #[.agg (chA c)] w fun e w' => e = .returned (.bool true) ∧ Below w.heap.size w w' := by
  have hb0 : Below w.heap.size w (w.alloc (.cells (chA c) 26)) := (Below.refl _ _).alloc (Nat.le_refl _) _
  obtain ⟨a0, a1, a2, a3, a4⟩ := ChAt.all (show ChAt (w.alloc (.cells (chA c) 26)) w.heap.size c from heap_alloc_new w _)
  rw [hk] at a0
  clear hk
  go_enter Try.func45, Try.ntmps45
  generalize c.k = k at *
  generalize c.pg = pg at *
  generalize c.sl = sl at *
  generalize c.o = o at *
  generalize c.n = n at *
  go_wp2
  go_ret
  exact ⟨rfl, hb0⟩

set_option maxRecDepth 4000 in
set_option maxHeartbeats 400000 in
theorem rcright_k3n (c : Ch) (w : World) (h1 : ¬ c.pg < 0) (h2 : ¬ 31 < c.pg) (h3 : ¬ c.sl < 0) (h4 : ¬ 7 < c.sl) (h5 : ¬ 20 < (c.o.size : Int)) (h6 : ¬ 20 < (c.n.size : Int)) (hk : c.k = 3) (he : c.n.toList.isEmpty = false) :
    Calls Try.prog 45 #[.agg (chA c)] w fun e w' => e = .returned (.bool false) ∧ Below w.heap.size w w' := by
  have hb0 : Below w.heap.size w (w.alloc (.cells (chA c) 26)) := (Below.refl _ _).alloc (Nat.le_refl _) _
  obtain ⟨a0, a1, a2, a3, a4⟩ := ChAt.all (show ChAt (w.alloc (.cells (chA c) 26)) w.heap.size c from heap_alloc_new w _)
  rw [hk] at a0
  clear hk
  go_enter Try.func45, Try.ntmps45
  generalize c.k = k at *
  generalize c.pg = pg at *
  generalize c.sl = sl at *
  generalize c.o = o at *
  generalize c.n = n at *
  go_wp2
  go_ret
  exact ⟨rfl, hb0⟩

set_option maxRecDepth 4000 in
set_option maxHeartbeats 400000 in
theorem rcright_k0 (c : Ch) (w : World) (h1 : ¬ c.pg < 0) (h2 : ¬ 31 < c.pg) (h3 : ¬ c.sl < 0) (h4 : ¬ 7 < c.sl) (h5 : ¬ 20 < (c.o.size : Int)) (h6 : ¬ 20 < (c.n.size : Int)) (hk1 : (c.k == 1) = false) (hk2 : (c.k == 2) = false) (hk3 : (c.k == 3) = false) :
    Calls Try.prog 45 #[.agg (chA c)] w fun e w' => e = .returned (.bool false) ∧ Below w.heap.size w w' := by
  have hb0 : Below w.heap.size w (w.alloc (.cells (chA c) 26)) := (Below.refl _ _).alloc (Nat.le_refl _) _
  obtain ⟨a0, a1, a2, a3, a4⟩ := ChAt.all (show ChAt (w.alloc (.cells (chA c) 26)) w.heap.size c from heap_alloc_new w _)
  go_enter Try.func45, Try.ntmps45
  generalize c.k = k at *
  generalize c.pg = pg at *
  generalize c.sl = sl at *
  generalize c.o = o at *
  generalize c.n = n at *
  go_wp2
  go_ret
  exact ⟨rfl, hb0⟩

/-- THE CONTRACT. -/
theorem rcright_any (c : Ch) (w : World) :
    Calls Try.prog 45 #[.agg (chA c)] w fun e w' => e = .returned (.bool (decide c.right)) ∧ Below w.heap.size w w' := by
  by_cases h1 : c.pg < 0
  · rw [decide_eq_false (fun h => by have := h.1; omega)]
    exact rcright_r1 c w h1
  by_cases h2 : 31 < c.pg
  · rw [decide_eq_false (fun h => by have := h.1; omega)]
    exact rcright_r2 c w h1 h2
  by_cases h3 : c.sl < 0
  · rw [decide_eq_false (fun h => by have := h.1; omega)]
    exact rcright_r3 c w h1 h2 h3
  by_cases h4 : 7 < c.sl
  · rw [decide_eq_false (fun h => by have := h.1; omega)]
    exact rcright_r4 c w h1 h2 h3 h4
  by_cases h5 : 20 < (c.o.size : Int)
  · rw [decide_eq_false (fun h => by have := h.1; omega)]
    exact rcright_r5 c w h1 h2 h3 h4 h5
  by_cases h6 : 20 < (c.n.size : Int)
  · rw [decide_eq_false (fun h => by have := h.1; omega)]
    exact rcright_r6 c w h1 h2 h3 h4 h5 h6
  have hr : c.kindOk → c.right := fun h => ⟨⟨by omega, by omega, by omega, by omega, by omega, by omega⟩, h⟩
  by_cases k1 : c.k = 1
  · by_cases he : c.o.toList.isEmpty = true
    · rw [decide_eq_true (hr (.inl ⟨k1, (empty_iff _).1 he⟩))]
      exact rcright_k1y c w h1 h2 h3 h4 h5 h6 k1 he
    · rw [decide_eq_false (fun h => by
        rcases h.2 with h | h | h
        · exact he ((empty_iff _).2 h.2)
        · omega
        · omega)]
      exact rcright_k1n c w h1 h2 h3 h4 h5 h6 k1 (by simpa using he)
  by_cases k2 : c.k = 2
  · rw [decide_eq_true (hr (.inr (.inl k2)))]
    exact rcright_k2 c w h1 h2 h3 h4 h5 h6 k2
  by_cases k3 : c.k = 3
  · by_cases he : c.n.toList.isEmpty = true
    · rw [decide_eq_true (hr (.inr (.inr ⟨k3, (empty_iff _).1 he⟩)))]
      exact rcright_k3y c w h1 h2 h3 h4 h5 h6 k3 he
    · rw [decide_eq_false (fun h => by
        rcases h.2 with h | h | h
        · omega
        · omega
        · exact he ((empty_iff _).2 h.2))]
      exact rcright_k3n c w h1 h2 h3 h4 h5 h6 k3 (by simpa using he)
  rw [decide_eq_false (fun h => by rcases h.2 with h | h | h <;> omega)]
  exact rcright_k0 c w h1 h2 h3 h4 h5 h6 (by simpa using k1) (by simpa using k2) (by simpa using k3)
end Go.Proofs.Ytbnlkfcaahgpmaa

/-
  A record's cells, and the contract of quaysideref06.Own.
-/
namespace Go.Proofs.Ytbnlkfcaahgpmaa
open Go.RowKit
set_option linter.unusedVariables false

theorem zero_fits : Ch.zero.fits := ⟨by decide, by decide, by decide, by show (0 : Nat) ≤ maxLen; omega, by show (0 : Nat) ≤ maxLen; omega⟩
theorem rcright_at (c : Ch) (w : World) (r : Bool) (Hr : Hid (decide c.right = r)) :
    Calls Try.prog 45 #[.agg (chA c)] w fun e w' => e = .returned (.bool r) ∧ Below w.heap.size w w' := by
  rw [← Hr.out]
  exact rcright_any c w
theorem zero_list : (⟨#[]⟩ : ByteArray).toList = [] := by
  rw [ByteArray.toList_eq]
theorem list_zero (s : ByteArray) (h : s.toList = []) : s = ⟨#[]⟩ := size0 s ((empty_iff s).1 (by rw [h]; rfl))
theorem ch_zero (c : Ch) (f1 : c.k = 0) (f2 : c.pg = 0) (f3 : c.sl = 0) (f4 : c.o.toList = []) (f5 : c.n.toList = []) : c = Ch.zero := by
  obtain ⟨k, pg, sl, o, n⟩ := c
  simp only at f1 f2 f3 f4 f5
  rw [f1, f2, f3, list_zero o f4, list_zero n f5]
  rfl
theorem rc_cells {x : World} {g : Nat} {r : Rec} {va vb : Value} (h : RowAt x g 30 (rcA r va vb)) :
    x.cell? ⟨g, 0, none⟩ = some (.int .i64 r.k) ∧ x.cell? ⟨g, 1, none⟩ = some (.int .u64 (r.l : Int)) ∧ x.cell? ⟨g, 2, none⟩ = some (.int .i64 r.t) ∧ x.cell? ⟨g, 3, none⟩ = some (.int .u64 (r.p : Int)) ∧ x.cell? ⟨g, 9, none⟩ = some (.int .u64 (r.n : Int)) ∧ x.cell? ⟨g, 10, none⟩ = some (.int .i64 r.s) ∧ x.cell? ⟨g, 11, none⟩ = some (.int .u64 (r.b : Int)) ∧ x.cell? ⟨g, 12, none⟩ = some va ∧ x.cell? ⟨g, 13, none⟩ = some vb :=
  ⟨h.cell 0 _ rfl, h.cell 1 _ rfl, h.cell 2 _ rfl, h.cell 3 _ rfl, h.cell 9 _ rfl, h.cell 10 _ rfl, h.cell 11 _ rfl, h.cell 12 _ rfl, h.cell 13 _ rfl⟩
theorem rc_chg {x : World} {g : Nat} {r : Rec} {va vb : Value} (h : RowAt x g 30 (rcA r va vb)) :
    x.cell? ⟨g, 4, none⟩ = some (.int .i64 r.c.k) ∧ x.cell? ⟨g, 5, none⟩ = some (.int .i64 r.c.pg) ∧ x.cell? ⟨g, 6, none⟩ = some (.int .i64 r.c.sl) ∧ x.cell? ⟨g, 7, none⟩ = some (.string r.c.o) ∧ x.cell? ⟨g, 8, none⟩ = some (.string r.c.n) :=
  ⟨h.cell 4 _ rfl, h.cell 5 _ rfl, h.cell 6 _ rfl, h.cell 7 _ rfl, h.cell 8 _ rfl⟩
theorem rc_change {x : World} {g : Nat} {r : Rec} {va vb : Value} (h : RowAt x g 30 (rcA r va vb)) : x.rangeAt g 4 (chA r.c).toList := by
  intro j v hv
  have hj : j < 5 := (List.getElem?_eq_some_iff.1 hv).1
  refine h.cell (4 + j) v ?_
  rw [← hv, Array.getElem?_toList]
  match j, hj with
  | 0, _ => rfl
  | 1, _ => rfl
  | 2, _ => rfl
  | 3, _ => rfl
  | 4, _ => rfl

set_option maxRecDepth 4000 in
set_option maxHeartbeats 400000 in
theorem own_at (k : Int) (w : World) (q : Bool) (Hq : Hid (decide (1 ≤ k ∧ k ≤ 6) = q)) :
    Calls Try.prog 44 #[.int .i64 k] w fun e w' => e = .returned (.bool q) ∧ w = w' := by
  by_cases h1 : 1 ≤ k
  · by_cases h2 : k ≤ 6
    · obtain rfl : q = true := by rw [← Hq.out]; exact decide_eq_true ⟨h1, h2⟩
      clear Hq
      go_enter Try.func44, Try.ntmps44
      go_wp2
      go_ret
      exact ⟨rfl, rfl⟩
    · obtain rfl : q = false := by rw [← Hq.out]; exact decide_eq_false (by omega)
      clear Hq
      go_enter Try.func44, Try.ntmps44
      go_wp2
      go_ret
      exact ⟨rfl, rfl⟩
  · obtain rfl : q = false := by rw [← Hq.out]; exact decide_eq_false (by omega)
    clear Hq
    go_enter Try.func44, Try.ntmps44
    go_wp2
    go_ret
    exact ⟨rfl, rfl⟩
end Go.Proofs.Ytbnlkfcaahgpmaa
