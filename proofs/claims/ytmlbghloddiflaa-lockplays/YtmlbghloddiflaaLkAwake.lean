/-
  The contract of the statements' awake.
-/
import Derived.Test.YtmlbghloddiflaaLkHeld
namespace Go.Proofs.Ytmlbghloddiflaa
open Go.RowKit
set_option linter.unusedVariables false

/-- A table kept by a walk, all its blocks new since w0. -/
structure K13 (w0 w : World) (g : Nat) (t : Tb) (N : Nat) (F : Nat → Prop) : Prop where
  tab : Kt w g t N F
  new : ∀ k, F k → w0.heap.size ≤ k
  bel : Below w0.heap.size w0 w
theorem K13.later {w0 w x : World} {g : Nat} {t : Tb} {N : Nat} {F : Nat → Prop} (h : K13 w0 w g t N F) (q : Below w.heap.size w x) : K13 w0 x g t N F := ⟨h.tab.later q, h.new, h.bel.trans (q.mono h.bel.size)⟩
theorem K13.aft {w0 w x : World} {g : Nat} {t t' : Tb} {N M : Nat} {F : Nat → Prop} (h : K13 w0 w g t N F) (q : Kaft w g F t' M x) : ∃ F', K13 w0 x g t' M F' ∧ Tn F w x ∧ ∀ k, F' k → F k ∨ w.heap.size ≤ k := by
  obtain ⟨F', a, b, c⟩ := q
  refine ⟨F', ⟨a, fun k hk => ?_, h.bel.trans (b.below h.new h.bel.size)⟩, b, c⟩
  rcases c k hk with h1 | h1
  · exact h.new k h1
  · exact Nat.le_trans h.bel.size h1
theorem K13.weak {w0 w : World} {g : Nat} {t : Tb} {N M : Nat} {F : Nat → Prop} (h : K13 w0 w g t N F) (hM : N ≤ M) : K13 w0 w g t M F := ⟨h.tab.weak hM, h.new, h.bel⟩
theorem knew13 {w0 w : World} (hb : Below w0.heap.size w0 w) : Calls Try.prog 10 #[] w fun e w' => ∃ g, e = .returned (.pointer (some ⟨g, 0, none⟩)) ∧ K13 w0 w' g ⟨[], []⟩ 0 (Is g) ∧ g = w.heap.size ∧ Below w.heap.size w w' := by
  refine (new13 w).mono ?_
  rintro e w' ⟨rfl, rfl⟩
  have b1 : Below w.heap.size w (w.alloc (.cells zTab 35)) := (Below.refl w.heap.size w).alloc (Nat.le_refl _) _
  exact ⟨_, rfl, ⟨Kt.new (RowAt.new w _ _), fun k hk => by rw [hk]; exact hb.size, hb.trans (b1.mono hb.size)⟩, rfl, b1⟩
theorem aw1 : ((⟨[], []⟩ : Tb).request 1 5 5) = (⟨[⟨1, 5, 5⟩], []⟩, 0) := by kernel_rfl
theorem aw2 : ((⟨[⟨1, 5, 5⟩], []⟩ : Tb).request 2 5 3) = (⟨[⟨1, 5, 5⟩], [⟨2, 5, 3⟩]⟩, 12) := by kernel_rfl
theorem aw3 : ((⟨[⟨1, 5, 5⟩], [⟨2, 5, 3⟩]⟩ : Tb).free 1) = (⟨[⟨2, 5, 3⟩], []⟩, [2]) := by kernel_rfl
theorem aw4 : ((⟨[⟨2, 5, 3⟩], []⟩ : Tb).at 2 5) = 3 := by kernel_rfl
theorem aws : ∃ t0 t1 t2 t3 : Tb, t0 = ⟨[], []⟩ ∧ t0.request 1 5 5 = (t1, 0) ∧ t1.request 2 5 3 = (t2, 12) ∧ t2.free 1 = (t3, [2]) ∧ t3.at 2 5 = 3 := ⟨_, _, _, _, rfl, aw1, aw2, aw3, aw4⟩
theorem one_num {B : Nat} {y : World} {v : Value} {n : Int} (h : OwnI B y v [n]) : ∃ b c, v = .slice (some ⟨b, 0, none⟩) 1 c ∧ y.cell? ⟨b, 0, none⟩ = some (.int .i64 n) := by
  obtain ⟨a, c, rfl⟩ := h.shape
  obtain ⟨b, rfl, h1⟩ := h.at (j := 0) (by simp)
  exact ⟨b, c, rfl, h1⟩
set_option maxRecDepth 8000 in
set_option maxHeartbeats 1600000 in
theorem awake13 (w : World) : Calls Try.prog 9 #[] w fun e w' => e = .returned (.bool true) ∧ Below w.heap.size w w' := by
  obtain ⟨t0, t1, t2, t3, q0, q1, q2, q3, q4⟩ := aws
  have HN := hide (knew13 (Below.refl w.heap.size w))
  rw [← q0] at HN
  have Q1 := hide q1
  have Q2 := hide q2
  have Q3 := hide q3
  have Q4 := hide q4
  clear q0 q1 q2 q3 q4
  go_enter Try.func9, Try.ntmps9
  go_wp2_with fail
  refine HN.out.mono ?_
  rintro e w1 ⟨g, rfl, hK, -, -⟩
  have hq := kreq hK.tab (by omega) 1 5 5
  rw [Q1.out] at hq
  have HK := hide hK
  have HQ := hide hq
  clear hK hq HN
  go_wp2_with fail
  refine HQ.out.mono ?_
  rintro e w2 ⟨rfl, hA⟩
  obtain ⟨F2, hK2, -, -⟩ := HK.out.aft hA
  have hq := kreq hK2.tab (by omega) 2 5 3
  rw [Q2.out] at hq
  have HK2 := hide hK2
  have HQ2 := hide hq
  clear hK2 hq HQ hA HK
  go_wp2_with fail
  refine HQ2.out.mono ?_
  rintro e w3 ⟨rfl, hA⟩
  obtain ⟨F3, hK3, -, -⟩ := HK2.out.aft hA
  have hq := kfree hK3.tab (by omega) 1
  rw [Q3.out] at hq
  have HK3 := hide hK3
  have HQ3 := hide hq
  clear hK3 hq HQ2 hA HK2
  go_wp2_with fail
  refine HQ3.out.mono ?_
  rintro e w4 ⟨v, rfl, hO, hA⟩
  obtain ⟨F4, hK4, -, -⟩ := HK3.out.aft hA
  obtain ⟨b, cv, rfl, c0⟩ := one_num hO
  have hq := kholds hK4.tab (by omega) 2 5
  rw [Q4.out] at hq
  have HK4 := hide hK4
  have HQ4 := hide hq
  clear hK4 hq HQ3 hA HK3 hO
  go_wp2_with fail
  refine HQ4.out.mono ?_
  rintro e w5 ⟨rfl, hb⟩
  have HE := hide (HK4.out.later hb).bel
  clear hb c0 HQ4 HK4
  go_wp2
  go_ret
  exact ⟨rfl, HE.out⟩
end Go.Proofs.Ytmlbghloddiflaa
