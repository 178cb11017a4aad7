/-
  The contracts of quaysideref05's Inverse and Cells.
-/
import Derived.Test.YtcehppekcbbaaaaChangeRefRight
namespace Go.Proofs.Ytcehppekcbbaaaa
open Go.RowKit
set_option linter.unusedVariables false

set_option maxRecDepth 4000 in
set_option maxHeartbeats 400000 in
theorem rinv_any (c : Ch) (w : World) :
    Calls Try.prog 15 #[.agg (chA c)] w fun e w' => e = .returned (.tuple #[.agg (chA (invC c)), .int .i64 (invE c)]) ∧ Below w.heap.size w w' := by
  have hb0 : Below w.heap.size w (w.alloc (.cells (chA c) 29)) := (Below.refl _ _).alloc (Nat.le_refl _) _
  have H0 : Hid (RowAt ((w.alloc (.cells (chA c) 29)).alloc (.cells (chA Ch.zero) 29)) w.heap.size 29 (chA c) ∧ RowAt ((w.alloc (.cells (chA c) 29)).alloc (.cells (chA Ch.zero) 29)) (w.heap.size + 1) 29 (chA Ch.zero) ∧ Below w.heap.size w ((w.alloc (.cells (chA c) 29)).alloc (.cells (chA Ch.zero) 29))) := by
    have e : (w.alloc (.cells (chA c) 29)).heap.size = w.heap.size + 1 := by simp
    refine ⟨(RowAt.new w _ _).below ((Below.refl _ _).alloc (Nat.le_refl _) _) (by simp), ?_, hb0.alloc (by simp) _⟩
    have h := RowAt.new (w.alloc (.cells (chA c) 29)) 29 (chA Ch.zero)
    rw [e] at h
    exact h
  have R := fun w => rcright_any c w
  go_enter Try.func15, Try.ntmps15
  obtain ⟨g2, hg2⟩ : ∃ g, g = w.heap.size + 1 := ⟨_, rfl⟩
  rw [← hg2] at H0
  have hlt : w.heap.size < g2 := by omega
  by_cases h : c.right
  · have e1 : invE c = 0 := by unfold invE; rw [if_pos h]
    have e2 : invC c = ⟨4 - c.k, c.pg, c.sl, c.n, c.o⟩ := by unfold invC; rw [if_pos h]
    have hk : 1 ≤ c.k ∧ c.k ≤ 3 := by rcases h.2 with h | h | h <;> omega
    rw [decide_eq_true h] at R
    rw [e1, e2]
    have HR := hide R
    clear R e1 e2 hb0 h
    go_wp2_with (refine wpList_load_at rfl 29 _ rfl w.heap.size rfl (chA c) H0.out.1 _ Try.underlying29 rfl infoCh ?_)
    rw [← hg2]
    refine gen_calls (fun x => Hid (RowAt x w.heap.size 29 (chA c) ∧ RowAt x g2 29 (chA Ch.zero) ∧ Below w.heap.size w x)) H0 ?_
    clear H0 hg2
    intro w1 H1
    refine (HR.out _).mono ?_
    rintro e w2 ⟨rfl, hb2⟩
    have H2 : Hid (RowAt w2 g2 29 (chA Ch.zero) ∧ Below w.heap.size w w2) := ⟨H1.out.2.1.later hb2, H1.out.2.2.trans (hb2.mono H1.out.2.2.size)⟩
    obtain ⟨a0, a1, a2, a3, a4⟩ := ChAt.all (show ChAt w2 w.heap.size c from H1.out.1.later hb2)
    clear H1 hb2 HR
    go_wp2_with (refine wpList_store_at rfl 29 _ _ rfl g2 (chA Ch.zero) (chA ⟨4 - c.k, c.pg, c.sl, c.n, c.o⟩) rfl rfl H2.out.1 infoCh rfl (chA_one _) ?_)
    intro w3 hR3 hk _
    have d3 := hk _ _ H2.out.2 (Nat.le_of_lt hlt)
    clear hk H2 a0 a1 a2 a3 a4
    have HR3 := hide hR3
    clear hR3
    go_wp2
    exact bodyPost_ret (res_at rfl _ _ g2 _ _ rfl HR3.out Try.underlying29 rfl infoCh) rfl ⟨rfl, d3⟩
  · have e1 : invE c = 1 := by unfold invE; rw [if_neg h]
    have e2 : invC c = Ch.zero := by unfold invC; rw [if_neg h]
    rw [decide_eq_false h] at R
    rw [e1, e2]
    have HR := hide R
    clear R e1 e2 hb0 h
    go_wp2_with (refine wpList_load_at rfl 29 _ rfl w.heap.size rfl (chA c) H0.out.1 _ Try.underlying29 rfl infoCh ?_)
    rw [← hg2]
    refine gen_calls (fun x => Hid (RowAt x w.heap.size 29 (chA c) ∧ RowAt x g2 29 (chA Ch.zero) ∧ Below w.heap.size w x)) H0 ?_
    clear H0 hg2
    intro w1 H1
    refine (HR.out _).mono ?_
    rintro e w2 ⟨rfl, hb2⟩
    have H2 : Hid (RowAt w2 g2 29 (chA Ch.zero) ∧ Below w.heap.size w w2) := ⟨H1.out.2.1.later hb2, H1.out.2.2.trans (hb2.mono H1.out.2.2.size)⟩
    clear H1 hb2 HR
    go_wp2_with (refine wpList_store_at rfl 29 _ _ rfl g2 (chA Ch.zero) (chA Ch.zero) rfl rfl H2.out.1 infoCh rfl (chA_one _) ?_)
    intro w3 hR3 hk _
    have d3 := hk _ _ H2.out.2 (Nat.le_of_lt hlt)
    clear hk H2
    have HR3 := hide hR3
    clear hR3
    go_wp2
    exact bodyPost_ret (res_at rfl _ _ g2 _ _ rfl HR3.out Try.underlying29 rfl infoCh) rfl ⟨rfl, d3⟩


end Go.Proofs.Ytcehppekcbbaaaa
