/-
  The contracts of package change's refusal, made, inverseKind, kindOf and rightCells.
-/
import Derived.Test.YtcehppekcbbaaabChangeMem
import Derived.Test.YtcehppekcbbaaabRowOne
namespace Go.Proofs.Ytcehppekcbbaaab
open Go.RowKit
set_option linter.unusedVariables false

/-- Why a cell can't be changed so. -/
def refE (u : Bool) (s : ByteArray) (c : Ch) : Int := if c.k = 1 then (if u = true then 6 else if s ≠ c.o then 2 else 0) else if u = false then 5 else if s ≠ c.o then 2 else 0

theorem ne_text {s t : ByteArray} (h : s ≠ t) : (s.toList == t.toList) = false := by
  rw [beq_eq_false_iff_ne]
  intro h2
  apply h
  rw [ByteArray.toList_eq, ByteArray.toList_eq] at h2
  rw [← mk_data s, h2, mk_data]

theorem two_new (w : World) (A B : Array Value) (t t2 : TypeId) : RowAt ((w.alloc (.cells A t)).alloc (.cells B t2)) w.heap.size t A ∧ RowAt ((w.alloc (.cells A t)).alloc (.cells B t2)) (w.heap.size + 1) t2 B ∧ Below w.heap.size w ((w.alloc (.cells A t)).alloc (.cells B t2)) := by
  have e1 : (w.alloc (.cells A t)).heap.size = w.heap.size + 1 := by simp
  have b1 := (Below.refl w.heap.size w).alloc (Nat.le_refl _) (.cells A t)
  have b2 := (Below.refl _ (w.alloc (.cells A t))).alloc (Nat.le_refl _) (.cells B t2)
  refine ⟨(RowAt.new w _ _).later b2, ?_, b1.trans (b2.mono (by omega))⟩
  have h := RowAt.new (w.alloc (.cells A t)) t2 B
  rw [e1] at h
  exact h

set_option maxRecDepth 4000 in
set_option maxHeartbeats 400000 in
theorem refuse_at (u : Bool) (s : ByteArray) (c : Ch) (w : World) (r : Int) (Hr : Hid (refE u s c = r)) :
    Calls Try.prog 13 #[.agg (ceA u s), .agg (chA c)] w fun e w' => e = .returned (.int .i64 r) ∧ Below w.heap.size w w' := by
  obtain ⟨r0, r1, hb0⟩ := two_new w (ceA u s) (chA c) 26 34
  have c0 := r0.cell 0 (.bool u) rfl
  have c1 := r0.cell 1 (.string s) rfl
  obtain ⟨a0, a1, a2, a3, a4⟩ := ChAt.all r1
  clear r0 r1 a1 a2 a4
  by_cases k1 : c.k = 1
  · have e : refE u s c = if u = true then 6 else if s ≠ c.o then 2 else 0 := by unfold refE; rw [if_pos k1]
    rw [k1] at a0
    clear k1
    cases u
    · by_cases hs : s = c.o
      · obtain rfl : r = 0 := by rw [← Hr.out, e, if_neg (by simp), if_neg (by simp [hs])]
        clear Hr e
        subst hs
        go_enter Try.func13, Try.ntmps13
        generalize c.o = o at *
        go_wp2
        go_ret
        exact ⟨rfl, hb0⟩
      · obtain rfl : r = 2 := by rw [← Hr.out, e, if_neg (by simp), if_pos hs]
        have hn := ne_text hs
        clear Hr e hs
        go_enter Try.func13, Try.ntmps13
        generalize c.o = o at *
        go_wp2
        go_ret
        exact ⟨rfl, hb0⟩
    · obtain rfl : r = 6 := by rw [← Hr.out, e, if_pos rfl]
      clear Hr e
      go_enter Try.func13, Try.ntmps13
      generalize c.o = o at *
      go_wp2
      go_ret
      exact ⟨rfl, hb0⟩
  · have e : refE u s c = if u = false then 5 else if s ≠ c.o then 2 else 0 := by unfold refE; rw [if_neg k1]
    have j1 : (c.k == 1) = false := by simpa using k1
    clear k1
    cases u
    · obtain rfl : r = 5 := by rw [← Hr.out, e, if_pos rfl]
      clear Hr e
      go_enter Try.func13, Try.ntmps13
      generalize c.o = o at *
      generalize c.k = k at *
      go_wp2
      go_ret
      exact ⟨rfl, hb0⟩
    · by_cases hs : s = c.o
      · obtain rfl : r = 0 := by rw [← Hr.out, e, if_neg (by simp), if_neg (by simp [hs])]
        clear Hr e
        subst hs
        go_enter Try.func13, Try.ntmps13
        generalize c.o = o at *
        generalize c.k = k at *
        go_wp2
        go_ret
        exact ⟨rfl, hb0⟩
      · obtain rfl : r = 2 := by rw [← Hr.out, e, if_neg (by simp), if_pos hs]
        have hn := ne_text hs
        clear Hr e hs
        go_enter Try.func13, Try.ntmps13
        generalize c.o = o at *
        generalize c.k = k at *
        go_wp2
        go_ret
        exact ⟨rfl, hb0⟩
theorem refuse_any (u : Bool) (s : ByteArray) (c : Ch) (w : World) :
    Calls Try.prog 13 #[.agg (ceA u s), .agg (chA c)] w fun e w' => e = .returned (.int .i64 (refE u s c)) ∧ Below w.heap.size w w' := refuse_at u s c w _ (hide rfl)

set_option maxRecDepth 4000 in
set_option maxHeartbeats 400000 in
theorem made_at (c : Ch) (w : World) (u : Bool) (s : ByteArray) (Hr : Hid (c.makeU = u ∧ c.makeV = s)) :
    Calls Try.prog 14 #[.agg (chA c)] w fun e w' => e = .returned (.agg (ceA u s)) ∧ Below w.heap.size w w' := by
  obtain ⟨r0, r1, hb0⟩ := two_new w (chA c) #[.bool false, .string ⟨#[]⟩] 34 26
  obtain ⟨a0, a1, a2, a3, a4⟩ := ChAt.all r0
  have H1 := hide (And.intro r1 hb0)
  clear r0 r1 hb0 a1 a2 a3
  by_cases k3 : c.k = 3
  · obtain ⟨rfl, rfl⟩ : u = false ∧ s = ⟨#[]⟩ := by
      rw [← Hr.out.1, ← Hr.out.2]
      unfold Ch.makeU Ch.makeV
      rw [if_pos k3]
      exact ⟨decide_eq_false (fun h => h k3), rfl⟩
    rw [k3] at a0
    clear Hr k3
    go_enter Try.func14, Try.ntmps14
    generalize c.n = n at *
    go_wp2_with (refine wpList_store_at rfl 26 (.tmp 2) (.tmp 10) rfl (w.heap.size + 1) (ceA false ⟨#[]⟩) (ceA false ⟨#[]⟩) rfl rfl H1.out.1 infoCe rfl (ceA_one _ _) ?_)
    intro w2 hr2 hk2 _
    have d2 := hk2 _ _ H1.out.2 (by omega)
    have HR2 := hide hr2
    clear hr2 hk2 H1
    go_wp2
    exact bodyPost_ret (res_one rfl _ _ (w.heap.size + 1) _ _ rfl HR2.out Try.underlying26 rfl infoCe) rfl ⟨rfl, d2⟩
  · obtain ⟨rfl, rfl⟩ : u = true ∧ s = c.n := by
      rw [← Hr.out.1, ← Hr.out.2]
      unfold Ch.makeU Ch.makeV
      rw [if_neg k3]
      exact ⟨decide_eq_true k3, rfl⟩
    have j3 : (c.k == 3) = false := by simpa using k3
    clear Hr k3
    go_enter Try.func14, Try.ntmps14
    generalize c.n = n at *
    generalize c.k = k at *
    go_wp2_with (refine wpList_store_at rfl 26 (.tmp 2) (.tmp 7) rfl (w.heap.size + 1) (ceA false ⟨#[]⟩) (ceA true n) rfl rfl H1.out.1 infoCe rfl (ceA_one _ _) ?_)
    intro w2 hr2 hk2 _
    have d2 := hk2 _ _ H1.out.2 (by omega)
    have HR2 := hide hr2
    clear hr2 hk2 H1
    go_wp2
    exact bodyPost_ret (res_one rfl _ _ (w.heap.size + 1) _ _ rfl HR2.out Try.underlying26 rfl infoCe) rfl ⟨rfl, d2⟩
theorem made_any (c : Ch) (w : World) :
    Calls Try.prog 14 #[.agg (chA c)] w fun e w' => e = .returned (.agg (ceA c.makeU c.makeV)) ∧ Below w.heap.size w w' := made_at c w _ _ (hide ⟨rfl, rfl⟩)
end Go.Proofs.Ytcehppekcbbaaab
