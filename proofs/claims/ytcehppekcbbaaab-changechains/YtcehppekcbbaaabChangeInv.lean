/-
  The contract of package change's Inverse.
-/
import Derived.Test.YtcehppekcbbaaabChangeApp
namespace Go.Proofs.Ytcehppekcbbaaab
open Go.RowKit
set_option linter.unusedVariables false

set_option maxHeartbeats 400000 in
theorem invKind_any (k : Int) (w : World) (hk : k = 1 ∨ k = 2 ∨ k = 3) :
    Calls Try.prog 15 #[.int .i64 k] w fun e w' => e = .returned (.int .i64 (4 - k)) ∧ w = w' := by
  rcases hk with rfl | rfl | rfl
  all_goals
    go_enter Try.func15, Try.ntmps15
    go_wp2
    go_ret
    exact ⟨rfl, rfl⟩

/-- A change's fields. -/
theorem load_int {b : Nat} (x : World) (j : Nat) (v : Int) (h : x.cell? ⟨b, j, none⟩ = some (.int .i64 v)) : (Instr.loadAt 3 (.pointer (some ⟨b, j, none⟩))).run Try.prog x = .ok (.int .i64 v) x := by go_simp
theorem load_str {b : Nat} (x : World) (j : Nat) (s : ByteArray) (h : x.cell? ⟨b, j, none⟩ = some (.string s)) : (Instr.loadAt 9 (.pointer (some ⟨b, j, none⟩))).run Try.prog x = .ok (.string s) x := by go_simp

def InvIn (w : World) (gr : Nat) (c : Ch) (x : World) : Prop := RowAt x w.heap.size 34 (chA c) ∧ RowAt x gr 34 (chA Ch.zero) ∧ Below w.heap.size w x ∧ w.heap.size < gr
theorem InvIn.later {w x y : World} {gr : Nat} {c : Ch} (h : InvIn w gr c x) (hb : Below x.heap.size x y) : InvIn w gr c y :=
  ⟨h.1.later hb, h.2.1.later hb, h.2.2.1.trans (hb.mono (Nat.le_of_lt h.1.lt)), h.2.2.2⟩
theorem InvIn.drew {w x : World} {gr : Nat} {c : Ch} (h : InvIn w gr c x) : InvIn w gr c x.drew := ⟨h.1, h.2.1, below_dn h.2.2.1 1, h.2.2.2⟩

set_option maxRecDepth 4000 in
set_option maxHeartbeats 3200000 in
theorem inverse_any (c : Ch) (w : World) :
    Calls Try.prog 7 #[.agg (chA c)] w fun e w' => e = .returned (.tuple #[.agg (chA (invC c)), .int .i64 (invE c)]) ∧ Below w.heap.size w w' := by
  have HP : Hid (InvIn w (w.heap.size + 1) c ((w.alloc (.cells (chA c) 34)).alloc (.cells #[.int .i64 0, .int .i64 0, .int .i64 0, .string ⟨#[]⟩, .string ⟨#[]⟩] 34))) := by
    obtain ⟨h1, h2, h3⟩ := two_new w (chA c) #[.int .i64 0, .int .i64 0, .int .i64 0, .string ⟨#[]⟩, .string ⟨#[]⟩] 34 34
    exact ⟨h1, h2, h3, by omega⟩
  go_enter Try.func7, Try.ntmps7
  obtain ⟨gr, hg⟩ : ∃ g, g = w.heap.size + 1 := ⟨_, rfl⟩
  rw [← hg] at HP
  by_cases h : c.right
  · have HR := hide (fun w => cright_at c w true (hide (decide_eq_true h)))
    have e1 : invE c = 0 := by unfold invE; rw [if_pos h]
    have e2 : invC c = ⟨4 - c.k, c.pg, c.sl, c.n, c.o⟩ := by unfold invC; rw [if_pos h]
    have HK := hide (fun w => invKind_any c.k w (by rcases h.2 with h | h | h <;> omega))
    rw [e1, e2]
    clear e1 e2 h
    go_wp2_with (refine wpList_load_at rfl 34 (.tmp 1) rfl w.heap.size rfl (chA c) HP.out.1 _ Try.underlying34 rfl infoCh ?_)
    rw [← hg]
    refine gen_calls (fun x => Hid (InvIn w gr c x)) HP ?_
    clear HP hg
    intro w0 H0
    refine (HR.out _).mono ?_
    rintro e w1 ⟨rfl, hb1⟩
    have H1 := hide (H0.out.later hb1)
    clear H0 hb1 HR
    go_wp2_with fail
    obtain ⟨a0, a1, a2, a3, a4⟩ := ChAt.all (show ChAt w1 w.heap.size c from H1.out.1)
    have lw : w.heap.size < w1.heap.size := H1.out.1.lt
    have n1 : ¬ w1.heap.size = w.heap.size := by omega
    have n2 : ¬ w.heap.size = w1.heap.size := by omega
    generalize ek : c.k = k at *
    generalize epg : c.pg = pg at *
    generalize esl : c.sl = sl at *
    generalize eo : c.o = o at *
    generalize en : c.n = n at *
    go_region_held3 (fun x => x.cell? ⟨w.heap.size, 0, none⟩ = some (.int .i64 k) ∧ x.cell? ⟨w.heap.size, 1, none⟩ = some (.int .i64 pg) ∧ x.cell? ⟨w.heap.size, 2, none⟩ = some (.int .i64 sl) ∧ x.cell? ⟨w.heap.size, 3, none⟩ = some (.string o) ∧ x.cell? ⟨w.heap.size, 4, none⟩ = some (.string n)) (go_keep)
      (first | (go_at_call 15; refine (HK.out _).mono ?_; rintro e w5 ⟨rfl, rfl⟩))
    all_goals
      have HN : Hid (RowAt (w1.alloc (.cells #[.int .i64 (4 - k), .int .i64 pg, .int .i64 sl, .string n, .string o] 34)).drew w1.heap.size 34 (chA ⟨4 - k, pg, sl, n, o⟩) ∧ RowAt (w1.alloc (.cells #[.int .i64 (4 - k), .int .i64 pg, .int .i64 sl, .string n, .string o] 34)).drew gr 34 (chA Ch.zero) ∧ Below w.heap.size w (w1.alloc (.cells #[.int .i64 (4 - k), .int .i64 pg, .int .i64 sl, .string n, .string o] 34)).drew ∧ w.heap.size < gr) := ⟨RowAt.new w1 34 (chA ⟨4 - k, pg, sl, n, o⟩), (H1.out.later ((Below.refl w1.heap.size w1).alloc (Nat.le_refl _) _)).drew.2⟩
      clear H1 a0 a1 a2 a3 a4 n1 n2 HK
      go_wp2_with (first | (refine wpList_load_at rfl 34 (.tmp 4) rfl w1.heap.size rfl (chA ⟨4 - k, pg, sl, n, o⟩) HN.out.1 _ Try.underlying34 rfl infoCh ?_) | (refine wpList_store_at rfl 34 (.tmp 2) (.tmp 21) rfl gr (chA Ch.zero) (chA ⟨4 - k, pg, sl, n, o⟩) rfl rfl HN.out.2.1 infoCh rfl (chA_one _) ?_))
      intro w2 hr2 hk2 _
      have d2 := hk2 _ _ HN.out.2.2.1 (by have := HN.out.2.2.2; omega)
      have HR2 := hide hr2
      clear hr2 hk2 HN
      go_wp2
      refine bodyPost_ret (res_at rfl _ _ gr (chA ⟨4 - k, pg, sl, n, o⟩) _ rfl HR2.out Try.underlying34 rfl infoCh) rfl ⟨?_, d2⟩
      rw [ek, epg, esl, eo, en]
      rfl
  · have HR := hide (fun w => cright_at c w false (hide (decide_eq_false h)))
    have e1 : invE c = 1 := by unfold invE; rw [if_neg h]
    have e2 : invC c = Ch.zero := by unfold invC; rw [if_neg h]
    rw [e1, e2]
    clear e1 e2 h
    go_wp2_with (refine wpList_load_at rfl 34 (.tmp 1) rfl w.heap.size rfl (chA c) HP.out.1 _ Try.underlying34 rfl infoCh ?_)
    rw [← hg]
    refine gen_calls (fun x => Hid (InvIn w gr c x)) HP ?_
    clear HP hg
    intro w0 H0
    refine (HR.out _).mono ?_
    rintro e w1 ⟨rfl, hb1⟩
    have H1 := hide (H0.out.later hb1)
    clear H0 hb1 HR
    go_wp2_with (refine wpList_store_at rfl 34 (.tmp 2) (.tmp 8) rfl gr (chA Ch.zero) (chA Ch.zero) rfl rfl H1.out.2.1 infoCh rfl (chA_one _) ?_)
    intro w2 hr2 hk2 _
    have d2 := hk2 _ _ H1.out.2.2.1 (by have := H1.out.2.2.2; omega)
    have HR2 := hide hr2
    clear hr2 hk2 H1
    go_wp2
    exact bodyPost_ret (res_at rfl _ _ gr (chA Ch.zero) _ rfl HR2.out Try.underlying34 rfl infoCh) rfl ⟨rfl, d2⟩
end Go.Proofs.Ytcehppekcbbaaab
