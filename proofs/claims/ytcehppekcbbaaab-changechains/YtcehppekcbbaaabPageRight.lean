/-
  The contracts of package page's Right and of what it calls.
-/
import Derived.Test.YtcehppekcbbaaabPageCells
namespace Go.Proofs.Ytcehppekcbbaaab
open Go.RowKit
set_option linter.unusedVariables false

set_option maxHeartbeats 400000 in
theorem rightCell_any (u : Bool) (s : ByteArray) (w : World) :
    Calls Try.prog 18 #[.agg (ceA u s)] w fun e w' => e = .returned (.bool (decide (cellOk u s))) ∧ Below w.heap.size w w' := by
  have hb0 : Below w.heap.size w (w.alloc (.cells (ceA u s) 26)) := (Below.refl _ _).alloc (Nat.le_refl _) _
  have hr := RowAt.new w 26 (ceA u s)
  have c0 := hr.cell 0 (.bool u) rfl
  have c1 := hr.cell 1 (.string s) rfl
  clear hr
  cases u with
  | true =>
    have e : decide (cellOk true s) = decide ((s.size : Int) ≤ 20) := decide_eq_decide.2 ⟨fun h => by have := h.1; omega, fun h => ⟨by omega, by simp⟩⟩
    have HE := hide e
    clear e
    go_enter Try.func18, Try.ntmps18
    go_wp2
    go_ret
    rw [HE.out]
    exact ⟨rfl, hb0⟩
  | false =>
    have e : decide (cellOk false s) = s.toList.isEmpty := by
      rw [Bool.eq_iff_iff, empty_iff, decide_eq_true_eq]
      exact ⟨fun h => h.2 rfl, fun h => ⟨by omega, fun _ => h⟩⟩
    have HE := hide e
    clear e
    go_enter Try.func18, Try.ntmps18
    go_wp2
    go_ret
    rw [HE.out]
    exact ⟨rfl, hb0⟩

/-- The cells' test. -/
abbrev Pg.cellsOk (p : Pg) : Prop := ∀ i, i < 8 → cellOk (p.u i) (p.s i)
theorem cells_no (p : Pg) (j : Nat) (hj : j < 8) (h : ¬ cellOk (p.u j) (p.s j)) : decide p.cellsOk = false := by
  rw [decide_eq_false_iff_not]
  intro hp
  exact h (hp j hj)
theorem cells_more {p : Pg} {j : Nat} (h : ∀ k, k < j → cellOk (p.u k) (p.s k)) (hj : cellOk (p.u j) (p.s j)) : ∀ k, k < j + 1 → cellOk (p.u k) (p.s k) := by
  intro k hk
  by_cases hkj : k = j
  · subst hkj
    exact hj
  · exact h k (by omega)

set_option maxHeartbeats 400000 in
theorem rightCells_any (p : Pg) (w : World) :
    Calls Try.prog 16 #[.agg (csA p)] w fun e w' => e = .returned (.bool (decide p.cellsOk)) ∧ Below w.heap.size w w' := by
  have hb0 : Below w.heap.size w (w.alloc (.cells (csA p) 27)) := (Below.refl _ _).alloc (Nat.le_refl _) _
  have hr := hide (RowAt.new w 27 (csA p))
  go_enter Try.func16, Try.ntmps16
  go_wp2_with (refine wpList_load_at rfl 27 (.tmp 1) rfl w.heap.size rfl (csA p) hr.out _ Try.underlying27 rfl infoCs ?_)
  go_loopw [6] (fun i wr => ∃ j : Nat, j ≤ 8 ∧ i = .int .i64 j ∧ Below w.heap.size w wr ∧ ∀ k, k < j → cellOk (p.u k) (p.s k)) (fun i _ => 8 - (intOf i).toNat)
  case atStart => exact ⟨0, Nat.zero_le _, rfl, hb0, fun k hk => absurd hk (by omega)⟩
  case round =>
    obtain ⟨j, hj, rfl, hbr, hok⟩ := hrel
    clear hb0 hr
    by_cases hlt : j < 8
    · have R := rightCell_any (p.u j) (p.s j)
      have HK := hide hok
      clear hok
      by_cases hc : cellOk (p.u j) (p.s j)
      · have HR := hide (fun w => (show Calls Try.prog 18 #[.agg (ceA (p.u j) (p.s j))] w fun e w' => e = .returned (.bool true) ∧ Below w.heap.size w w' by have := R w; rwa [decide_eq_true hc] at this))
        have HY := hide (cells_more HK.out hc)
        clear R hc HK
        go_wp2_with (first | (refine wpList_index_cs rfl (.tmp 5) (.tmp 6) rfl p j hlt rfl rfl ?_) | (refine wpList_store_at rfl 26 (.tmp 4) (.tmp 8) rfl wr.heap.size (ceA false ⟨#[]⟩) (ceA (p.u j) (p.s j)) rfl rfl (RowAt.new wr 26 _) infoCe rfl (ceA_one _ _) ?_))
        intro w2 hr2 hk2 _
        have d2 := hk2 _ _ (hbr.alloc hbr.size _) hbr.size
        have HR2 := hide hr2
        clear hr2 hk2 hbr
        go_wp2_with (refine wpList_load_at rfl 26 (.tmp 4) rfl wr.heap.size rfl (ceA (p.u j) (p.s j)) HR2.out _ Try.underlying26 rfl infoCe ?_)
        refine (HR.out _).mono ?_
        rintro e w3 ⟨rfl, hb3⟩
        have d3 := d2.trans (hb3.mono d2.size)
        clear d2 hb3 HR HR2
        go_wp2
        go_roundw
        case rel => exact ⟨j + 1, by omega, by go_num, d3, HY.out⟩
        case measure => simp [intOf]; omega
      · have HR := hide (fun w => (show Calls Try.prog 18 #[.agg (ceA (p.u j) (p.s j))] w fun e w' => e = .returned (.bool false) ∧ Below w.heap.size w w' by have := R w; rwa [decide_eq_false hc] at this))
        have HN := hide (cells_no p j hlt hc)
        clear R hc HK
        go_wp2_with (first | (refine wpList_index_cs rfl (.tmp 5) (.tmp 6) rfl p j hlt rfl rfl ?_) | (refine wpList_store_at rfl 26 (.tmp 4) (.tmp 8) rfl wr.heap.size (ceA false ⟨#[]⟩) (ceA (p.u j) (p.s j)) rfl rfl (RowAt.new wr 26 _) infoCe rfl (ceA_one _ _) ?_))
        intro w2 hr2 hk2 _
        have d2 := hk2 _ _ (hbr.alloc hbr.size _) hbr.size
        have HR2 := hide hr2
        clear hr2 hk2 hbr
        go_wp2_with (refine wpList_load_at rfl 26 (.tmp 4) rfl wr.heap.size rfl (ceA (p.u j) (p.s j)) HR2.out _ Try.underlying26 rfl infoCe ?_)
        refine (HR.out _).mono ?_
        rintro e w3 ⟨rfl, hb3⟩
        have d3 := d2.trans (hb3.mono d2.size)
        clear d2 hb3 HR HR2
        go_wp2
        go_ret
        rw [HN.out]
        exact ⟨rfl, d3⟩
    · obtain rfl : j = 8 := by omega
      have HE := hide (decide_eq_true (show p.cellsOk from hok))
      clear hok
      go_wp2
      go_ret
      rw [HE.out]
      exact ⟨rfl, hbr⟩

set_option maxHeartbeats 400000 in
theorem right_any (p : Pg) (w : World) :
    Calls Try.prog 11 #[.agg (pgA p)] w fun e w' => e = .returned (.bool (decide p.right)) ∧ Below w.heap.size w w' := by
  have hP : PgAt (w.alloc (.cells (pgA p) 29)) w.heap.size p := heap_alloc_new w _
  have hb0 : Below w.heap.size w (w.alloc (.cells (pgA p) 29)) := (Below.refl _ _).alloc (Nat.le_refl _) _
  have c0 := hP.lsn
  have HP := hide hP
  clear hP
  have e2 : maxP = 4611686018427387904 := rfl
  by_cases h : (p.l : Int) ≤ 4611686018427387904
  · have e : decide p.right = decide p.cellsOk := decide_eq_decide.2 ⟨fun h => h.2, fun g => ⟨by omega, g⟩⟩
    have HR := hide (rightCells_any p)
    rw [e]
    clear e e2
    generalize decide p.cellsOk = r at *
    go_enter Try.func11, Try.ntmps11
    go_wp2_with (refine wpList_load_cs rfl (.tmp 7) rfl w.heap.size rfl p HP.out ?_)
    refine (HR.out _).mono ?_
    rintro e w1 ⟨rfl, hb1⟩
    have d1 := hb0.trans (hb1.mono hb0.size)
    clear hb0 hb1 HR HP c0
    go_wp2
    go_ret
    exact ⟨rfl, d1⟩
  · have e : decide p.right = false := by
      rw [decide_eq_false_iff_not]
      intro h1
      have := h1.1
      omega
    rw [e]
    clear e e2
    have h1 : ((p.l : Int) ≤ 4611686018427387904) = False := by simpa using h
    clear h
    go_enter Try.func11, Try.ntmps11
    go_wp2
    go_ret
    exact ⟨rfl, hb0⟩
end Go.Proofs.Ytcehppekcbbaaab
