/-
  The contracts of package lsn: all but See and Rises.
-/
import Derived.Test.YtonbfckloicgaaaLsnRef
namespace Go.Proofs.Ytonbfckloicgaaa
open Go.RowKit
set_option linter.unusedVariables false

/-- A clock in memory. -/
def ClkAt (w : World) (b n : Nat) : Prop := n ≤ maxL ∧ w.heap[b]? = some (.cells #[.int .u64 n] 31 (0, 0))
theorem ClkAt.cell {w : World} {b n : Nat} (h : ClkAt w b n) : w.cell? ⟨b, 0, none⟩ = some (.int .u64 n) := by
  rw [cell_of_row w b 0 _ _ (0, 0) h.2]
  simp
theorem ClkAt.free {w : World} {b n : Nat} (h : ClkAt w b n) : w.frozen? ⟨b, 0, none⟩ = false := frozen_of_row w b 0 _ _ h.2
theorem ClkAt.set {w : World} {b n : Nat} (h : ClkAt w b n) (m : Nat) (hm : m ≤ maxL) : ClkAt (w.setCell ⟨b, 0, none⟩ (.int .u64 m)) b m := by
  have h1 := heap_setCell_same w b 0 _ _ (.int .u64 m) h.2
  refine ⟨hm, ?_⟩
  rw [h1]
  simp
theorem ClkAt.new (w : World) (n : Nat) (h : n ≤ maxL) : ClkAt (w.alloc (.cells #[.int .u64 n] 31)) w.heap.size n := ⟨h, heap_alloc_new w _⟩

set_option maxHeartbeats 400000 in
theorem before_any (a b : Nat) (i j : Int) (w : World) :
    Calls Try.prog 16 #[.int .u64 a, .int .i64 i, .int .u64 b, .int .i64 j] w fun e w' => e = .returned (.bool (bef a i b j)) ∧ w = w' := by
  by_cases h1 : a < b
  · have hb : bef a i b j = true := (bef_iff a b i j).2 (.inl h1)
    have h2 : (a : Int) < (b : Int) := by omega
    rw [hb]
    clear hb
    go_enter Try.func16, Try.ntmps16
    go_wp2
    go_ret
    exact ⟨rfl, rfl⟩
  · have h2 : ¬ (a : Int) < (b : Int) := by omega
    by_cases he : a = b
    · subst he
      by_cases hij : i < j
      · have hb : bef a i a j = true := (bef_iff a a i j).2 (.inr ⟨rfl, hij⟩)
        rw [hb]
        clear hb
        go_enter Try.func16, Try.ntmps16
        go_wp2
        go_ret
        exact ⟨rfl, rfl⟩
      · have hb : bef a i a j = false := (bef_no a a i j).2 (by omega)
        rw [hb]
        clear hb
        go_enter Try.func16, Try.ntmps16
        go_wp2
        go_ret
        exact ⟨rfl, rfl⟩
    · have hb : bef a i b j = false := (bef_no a b i j).2 (by omega)
      have h3 : ((a : Int) == (b : Int)) = false := by simp; omega
      rw [hb]
      clear hb
      go_enter Try.func16, Try.ntmps16
      go_wp2
      go_ret
      exact ⟨rfl, rfl⟩

set_option maxHeartbeats 400000 in
theorem capped_any (l : Nat) (w : World) :
    Calls Try.prog 20 #[.int .u64 l] w fun e w' => e = .returned (.int .u64 (min l maxL : Nat)) ∧ w' = w := by
  by_cases h : maxL < l
  · have e : min l maxL = maxL := by omega
    have h1 : (4611686018427387904 : Int) < (l : Int) := by unfold maxL at h; omega
    rw [e]
    clear e
    go_enter Try.func20, Try.ntmps20
    go_wp2
    go_ret
    exact ⟨rfl, rfl⟩
  · have e : min l maxL = l := by omega
    have h1 : ¬ (4611686018427387904 : Int) < (l : Int) := by unfold maxL at h; omega
    rw [e]
    clear e
    go_enter Try.func20, Try.ntmps20
    go_wp2
    go_ret
    exact ⟨rfl, rfl⟩

set_option maxHeartbeats 400000 in
theorem top_any (s : Bool) (w : World) :
    Calls Try.prog 22 #[.bool s] w fun e w' => e = .returned (.int .u64 ((if s then maxL else topL : Nat) : Int)) ∧ w' = w := by
  cases s
  · go_enter Try.func22, Try.ntmps22
    go_wp2
    go_ret
    exact ⟨rfl, rfl⟩
  · go_enter Try.func22, Try.ntmps22
    go_wp2
    go_ret
    exact ⟨rfl, rfl⟩

set_option maxHeartbeats 400000 in
theorem new_any (s : Nat) (w : World) (hs : s < 18446744073709551616) :
    Calls Try.prog 10 #[.int .u64 s] w fun e w' => ∃ b, e = .returned (.pointer (some ⟨b, 0, none⟩)) ∧ w.heap.size ≤ b ∧ ClkAt w' b (min s maxL) ∧ Below w.heap.size w w' := by
  have L := capped_any s w
  have hm : min s maxL ≤ maxL := Nat.min_le_right _ _
  generalize min s maxL = m at L hm
  have HL := hideL L
  clear L
  have HN := hideL (ClkAt.new w m hm)
  go_enter Try.func10, Try.ntmps10
  go_wp2_with fail
  refine HL.out.mono ?_
  rintro e w1 ⟨rfl, rfl⟩
  go_wp2
  go_ret
  exact ⟨_, rfl, Nat.le_refl _, HN.out, (Below.refl _ _).alloc (Nat.le_refl _) _⟩

set_option maxHeartbeats 400000 in
theorem last_any (b n : Nat) (w : World) (h : ClkAt w b n) :
    Calls Try.prog 15 #[.pointer (some ⟨b, 0, none⟩)] w fun e w' => e = .returned (.int .u64 n) ∧ w = w' := by
  have hc := h.cell
  clear h
  go_enter Try.func15, Try.ntmps15
  go_wp2
  go_ret
  exact ⟨rfl, rfl⟩

set_option maxHeartbeats 400000 in
theorem last_nil (w : World) :
    Calls Try.prog 15 #[.pointer none] w fun e w' => e = .returned (.int .u64 0) ∧ w = w' := by
  go_enter Try.func15, Try.ntmps15
  go_wp2
  go_ret
  exact ⟨rfl, rfl⟩

set_option maxHeartbeats 400000 in
theorem see_nil (l : Int) (w : World) :
    Calls Try.prog 12 #[.pointer none, .int .u64 l] w fun e w' => e = .returned (.tuple #[]) ∧ w = w' := by
  go_enter Try.func12, Try.ntmps12
  go_wp2
  refine bodyPost_ret (results_none rfl _ _ _) rfl ?_
  exact ⟨rfl, rfl⟩

set_option maxHeartbeats 400000 in
theorem next_nil (f : Int) (s : Bool) (w : World) :
    Calls Try.prog 13 #[.pointer none, .int .u64 f, .bool s] w fun e w' => e = .returned (.tuple #[.int .u64 0, .int .i64 1]) ∧ w = w' := by
  go_enter Try.func13, Try.ntmps13
  go_wp2
  go_ret2
  exact ⟨rfl, rfl⟩

set_option maxHeartbeats 400000 in
theorem next_full_at (b n f t : Nat) (s : Bool) (w : World) (hc : w.cell? ⟨b, 0, none⟩ = some (.int .u64 n)) (ht : t ≤ max n f)
    (HL : Hid (∀ w, Calls Try.prog 22 #[.bool s] w fun e w' => e = .returned (.int .u64 (t : Int)) ∧ w' = w)) :
    Calls Try.prog 13 #[.pointer (some ⟨b, 0, none⟩), .int .u64 f, .bool s] w fun e w' => e = .returned (.tuple #[.int .u64 0, .int .i64 7]) ∧ w' = w := by
  by_cases h1 : n < f
  · have h2 : (n : Int) < (f : Int) := by omega
    have h3 : (t : Int) ≤ (f : Int) := by omega
    clear ht
    go_enter Try.func13, Try.ntmps13
    go_wp2_with fail
    refine (HL.out _).mono ?_
    rintro e w1 ⟨rfl, rfl⟩
    go_wp2
    go_ret2
    exact ⟨rfl, rfl⟩
  · have h2 : ¬ (n : Int) < (f : Int) := by omega
    have h3 : (t : Int) ≤ (n : Int) := by omega
    clear ht
    go_enter Try.func13, Try.ntmps13
    go_wp2_with fail
    refine (HL.out _).mono ?_
    rintro e w1 ⟨rfl, rfl⟩
    go_wp2
    go_ret2
    exact ⟨rfl, rfl⟩

theorem wrap_up (n : Nat) (h : n < 4611686018427387904) : IntKind.u64.wrap ((n : Int) + 1) = ((n + 1 : Nat) : Int) := by
  simp only [IntKind.wrap, IntKind.bits, IntKind.signed]
  simp
  omega

set_option maxHeartbeats 400000 in
theorem next_gives_false (b n f : Nat) (w : World) (hc : w.cell? ⟨b, 0, none⟩ = some (.int .u64 n)) (hfz : w.frozen? ⟨b, 0, none⟩ = false) (ht : ¬ topL ≤ max n f)
    (HL : Hid (∀ w, Calls Try.prog 22 #[.bool false] w fun e w' => e = .returned (.int .u64 4611686018427322368) ∧ w' = w)) :
    Calls Try.prog 13 #[.pointer (some ⟨b, 0, none⟩), .int .u64 f, .bool false] w fun e w' => e = .returned (.tuple #[.int .u64 ((max n f + 1 : Nat) : Int), .int .i64 0]) ∧ w' = w.setCell ⟨b, 0, none⟩ (.int .u64 ((max n f + 1 : Nat) : Int)) := by
  unfold topL at ht
  by_cases h1 : n < f
  · have h2 : (n : Int) < (f : Int) := by omega
    have h3 : ((4611686018427322368 : Int) ≤ (f : Int)) = False := eq_false (by omega)
    have HW := hideL (wrap_up f (by omega))
    have hmx : max n f = f := by omega
    rw [hmx]
    clear ht hmx
    go_enter Try.func13, Try.ntmps13
    go_wp2_with fail
    refine (HL.out _).mono ?_
    rintro e w1 ⟨rfl, rfl⟩
    clear HL
    go_wp2
    go_ret2
    rw [HW.out]
    exact ⟨rfl, rfl⟩
  · have h2 : ¬ (n : Int) < (f : Int) := by omega
    have h3 : ((4611686018427322368 : Int) ≤ (n : Int)) = False := eq_false (by omega)
    have HW := hideL (wrap_up n (by omega))
    have hmx : max n f = n := by omega
    rw [hmx]
    clear ht hmx
    go_enter Try.func13, Try.ntmps13
    go_wp2_with fail
    refine (HL.out _).mono ?_
    rintro e w1 ⟨rfl, rfl⟩
    clear HL
    go_wp2
    go_ret2
    rw [HW.out]
    exact ⟨rfl, rfl⟩

set_option maxHeartbeats 400000 in
theorem next_gives_true (b n f : Nat) (w : World) (hc : w.cell? ⟨b, 0, none⟩ = some (.int .u64 n)) (hfz : w.frozen? ⟨b, 0, none⟩ = false) (ht : ¬ maxL ≤ max n f)
    (HL : Hid (∀ w, Calls Try.prog 22 #[.bool true] w fun e w' => e = .returned (.int .u64 4611686018427387904) ∧ w' = w)) :
    Calls Try.prog 13 #[.pointer (some ⟨b, 0, none⟩), .int .u64 f, .bool true] w fun e w' => e = .returned (.tuple #[.int .u64 ((max n f + 1 : Nat) : Int), .int .i64 0]) ∧ w' = w.setCell ⟨b, 0, none⟩ (.int .u64 ((max n f + 1 : Nat) : Int)) := by
  unfold maxL at ht
  by_cases h1 : n < f
  · have h2 : (n : Int) < (f : Int) := by omega
    have h3 : ((4611686018427387904 : Int) ≤ (f : Int)) = False := eq_false (by omega)
    have HW := hideL (wrap_up f (by omega))
    have hmx : max n f = f := by omega
    rw [hmx]
    clear ht hmx
    go_enter Try.func13, Try.ntmps13
    go_wp2_with fail
    refine (HL.out _).mono ?_
    rintro e w1 ⟨rfl, rfl⟩
    clear HL
    go_wp2
    go_ret2
    rw [HW.out]
    exact ⟨rfl, rfl⟩
  · have h2 : ¬ (n : Int) < (f : Int) := by omega
    have h3 : ((4611686018427387904 : Int) ≤ (n : Int)) = False := eq_false (by omega)
    have HW := hideL (wrap_up n (by omega))
    have hmx : max n f = n := by omega
    rw [hmx]
    clear ht hmx
    go_enter Try.func13, Try.ntmps13
    go_wp2_with fail
    refine (HL.out _).mono ?_
    rintro e w1 ⟨rfl, rfl⟩
    clear HL
    go_wp2
    go_ret2
    rw [HW.out]
    exact ⟨rfl, rfl⟩

theorem full_top (n f : Nat) (s : Bool) : full n f s = true ↔ (if s then maxL else topL) ≤ max n f := by
  rw [full_iff]
  cases s
  · simp only [maxL, topL, true_and, Bool.false_eq_true, if_false]
    omega
  · simp [maxL]

theorem next_any (b n f : Nat) (s : Bool) (w : World) (h : ClkAt w b n) (hf : f < 18446744073709551616) :
    Calls Try.prog 13 #[.pointer (some ⟨b, 0, none⟩), .int .u64 f, .bool s] w fun e w' => e = .returned (.tuple #[.int .u64 (nextS n f s).1, .int .i64 (nextS n f s).2]) ∧ ClkAt w' b (nextN n f s) ∧ w.grownBy w' (some b) := by
  have hq := full_top n f s
  by_cases ht : (if s then maxL else topL) ≤ max n f
  · have e := hq.2 ht
    have e1 : nextS n f s = (0, 7) := by simp [nextS, e]
    have e2 : nextN n f s = n := by simp [nextN, e]
    rw [e1, e2]
    refine (next_full_at b n f _ s w h.cell ht (hideL fun w => top_any s w)).mono ?_
    rintro e w' ⟨rfl, rfl⟩
    exact ⟨rfl, h, grown_refl _ _⟩
  · have e : full n f s = false := by
      rw [← Bool.not_eq_true, hq]
      exact ht
    have e1 : nextS n f s = (((max n f + 1 : Nat) : Int), 0) := by simp [nextS, e]
    have e2 : nextN n f s = max n f + 1 := by simp [nextN, e]
    rw [e1, e2]
    cases s
    · refine (next_gives_false b n f w h.cell h.free (by simpa using ht) (hideL fun w => top_any false w)).mono ?_
      rintro e w' ⟨rfl, rfl⟩
      exact ⟨rfl, h.set _ (by unfold maxL; simp [topL] at ht; omega), grown_set _ _ _⟩
    · refine (next_gives_true b n f w h.cell h.free (by simpa using ht) (hideL fun w => top_any true w)).mono ?_
      rintro e w' ⟨rfl, rfl⟩
      exact ⟨rfl, h.set _ (by simp at ht; omega), grown_set _ _ _⟩
end Go.Proofs.Ytonbfckloicgaaa
