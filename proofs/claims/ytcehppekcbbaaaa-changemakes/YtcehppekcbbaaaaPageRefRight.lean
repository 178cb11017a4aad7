/-
  The contract of quaysideref04.Right.
-/
import Derived.Test.YtcehppekcbbaaaaPageMem
namespace Go.Proofs.Ytcehppekcbbaaaa
open Go.RowKit
set_option linter.unusedVariables false

theorem right_no (p : Pg) (j : Nat) (hj : j < 8) (h : ¬ cellOk (p.u j) (p.s j)) : decide p.right = false := by
  rw [decide_eq_false_iff_not]
  intro hp
  exact h (hp.2 j hj)
theorem ok_more {p : Pg} {j : Nat} (h : ∀ k, k < j → cellOk (p.u k) (p.s k)) (hj : cellOk (p.u j) (p.s j)) : ∀ k, k < j + 1 → cellOk (p.u k) (p.s k) := by
  intro k hk
  by_cases hkj : k = j
  · subst hkj
    exact hj
  · exact h k (by omega)

set_option maxHeartbeats 400000 in
theorem rright_at (p : Pg) (w : World) (r : Bool) (Hr : Hid (decide p.right = r)) :
    Calls Try.prog 21 #[.agg (pgA p)] w fun e w' => e = .returned (.bool r) ∧ Below w.heap.size w w' := by
  have hP : PgAt (w.alloc (.cells (pgA p) 27)) w.heap.size p := heap_alloc_new w _
  have hb0 : Below w.heap.size w (w.alloc (.cells (pgA p) 27)) := (Below.refl _ _).alloc (Nat.le_refl _) _
  have hz0 : w.heap.size < (w.alloc (.cells (pgA p) 27)).heap.size := by simp
  go_enter Try.func21, Try.ntmps21
  go_wp2
  generalize w.alloc (.cells (pgA p) 27) = w0 at *
  go_loopw [3] (fun i wr => ∃ j : Nat, j ≤ 8 ∧ i = .int .i64 j ∧ Below w.heap.size w wr ∧ w.heap.size < wr.heap.size ∧ PgAt wr w.heap.size p ∧ ∀ k, k < j → cellOk (p.u k) (p.s k)) (fun i _ => 8 - (intOf i).toNat)
  case atStart => exact ⟨0, Nat.zero_le _, rfl, hb0, hz0, hP, fun k hk => absurd hk (by omega)⟩
  case round =>
    obtain ⟨j, hj, rfl, hbr, hzr, hPr, hok⟩ := hrel
    clear hP hb0 hz0
    by_cases hlt : j < 8
    · have c1 := hPr.used j hlt
      have c2 := hPr.val j hlt
      have HP := hide hPr
      have HK := hide hok
      clear hPr hok
      have hno := right_no p j hlt
      have hyes := fun (h : cellOk (p.u j) (p.s j)) => ok_more HK.out h
      generalize p.u j = u at *
      generalize p.s j = s at *
      have HN := hide hno
      have HY := hide hyes
      clear hno hyes HK
      by_cases h20 : (s.size : Int) ≤ 20
      · cases u with
        | true =>
          go_wp2
          go_roundw
          case rel => exact ⟨j + 1, by omega, by go_num, hbr.alloc hbr.size _, lt_alloc hzr _, HP.out.alloc hzr _, HY.out ⟨by omega, by simp⟩⟩
          case measure => simp [intOf]; omega
        | false =>
          by_cases he : s.toList.isEmpty = true
          · have he2 := (empty_iff s).1 he
            go_wp2
            go_roundw
            case rel => exact ⟨j + 1, by omega, by go_num, hbr.alloc hbr.size _, lt_alloc hzr _, HP.out.alloc hzr _, HY.out ⟨by omega, fun _ => he2⟩⟩
            case measure => simp [intOf]; omega
          · have he1 : s.toList.isEmpty = false := by simpa using he
            have he2 : ¬ s.size = 0 := fun h => he ((empty_iff s).2 h)
            clear he
            go_wp2
            go_ret
            exact ⟨by rw [← Hr.out, HN.out (fun h => he2 (h.2 rfl))]; rfl, hbr.alloc hbr.size _⟩
      · go_wp2
        go_ret
        exact ⟨by rw [← Hr.out, HN.out (fun h => by have := h.1; omega)]; rfl, hbr.alloc hbr.size _⟩
    · have c1 := hPr.lsn
      obtain rfl : j = 8 := by omega
      have e2 : maxP = 4611686018427387904 := rfl
      have e : decide p.right = decide ((p.l : Int) ≤ 4611686018427387904) := decide_eq_decide.2 ⟨fun h => by have := h.1; omega, fun h => ⟨by omega, hok⟩⟩
      have HE := hide e
      clear hok hPr e e2
      go_wp2
      go_ret
      rw [← Hr.out, HE.out]
      exact ⟨rfl, hbr⟩

/-- THE CONTRACT. -/
theorem rright_any (p : Pg) (w : World) :
    Calls Try.prog 21 #[.agg (pgA p)] w fun e w' => e = .returned (.bool (decide p.right)) ∧ Below w.heap.size w w' := rright_at p w _ (hide rfl)
end Go.Proofs.Ytcehppekcbbaaaa
