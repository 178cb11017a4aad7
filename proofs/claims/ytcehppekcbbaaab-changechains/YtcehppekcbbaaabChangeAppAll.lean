/-
  The contract of package change's Apply, whole.
-/
import Derived.Test.YtcehppekcbbaaabChangeApp
namespace Go.Proofs.Ytcehppekcbbaaab
open Go.RowKit
set_option linter.unusedVariables false

set_option maxRecDepth 4000 in
set_option maxHeartbeats 1600000 in
theorem appl_p (p : Pg) (c : Ch) (l : Nat) (w : World) (hp : ¬ p.right) :
    Calls Try.prog 6 #[.agg (pgA p), .agg (chA c), .int .u64 l] w fun e w' => e = .returned (.tuple #[.agg (pgA Pg.zero), .int .i64 1]) ∧ Below w.heap.size w w' := by
  have H0 := hide (app_in w p c)
  have HR1 := hide (fun w => right_any p w)
  have HR2 := hide (fun w => cright_any c w)
  rw [decide_eq_false hp] at HR1
  go_enter Try.func6, Try.ntmps6
  obtain ⟨gc, h1⟩ : ∃ g, g = w.heap.size + 1 := ⟨_, rfl⟩
  obtain ⟨gr, h2⟩ : ∃ g, g = w.heap.size + 1 + 1 := ⟨_, rfl⟩
  rw [← h2, ← h1] at H0
  go_wp2_with (refine wpList_load_page rfl _ rfl w.heap.size rfl p H0.out.1 ?_)
  rw [← h2, ← h1]
  refine gen_calls (fun x => Hid (AppIn w gc gr p c x)) H0 ?_
  clear H0 h1 h2
  intro w0 H0
  refine (HR1.out _).mono ?_
  rintro e w1 ⟨rfl, hb1⟩
  have H1 := hide (H0.out.later hb1)
  clear H0 hb1 HR1
  clear HR2
  go_wp2_with (refine wpList_store_page rfl _ _ rfl gr Pg.zero Pg.zero rfl rfl H1.out.2.2.1 ?_)
  intro w7 hP7 hk
  have HP7 := hide hP7
  have d7 := hk _ _ H1.out.2.2.2.1 (by have := H1.out.2.2.2.2; omega)
  clear hP7 hk H1
  go_wp2
  exact bodyPost_ret (res_page rfl _ _ gr Pg.zero rfl HP7.out) rfl ⟨rfl, d7⟩

set_option maxRecDepth 4000 in
set_option maxHeartbeats 1600000 in
theorem app_c (p : Pg) (c : Ch) (l : Nat) (w : World) (hp : p.right) (hc : ¬ c.right) :
    Calls Try.prog 6 #[.agg (pgA p), .agg (chA c), .int .u64 l] w fun e w' => e = .returned (.tuple #[.agg (pgA Pg.zero), .int .i64 1]) ∧ Below w.heap.size w w' := by
  have H0 := hide (app_in w p c)
  have HR1 := hide (fun w => right_any p w)
  have HR2 := hide (fun w => cright_any c w)
  rw [decide_eq_true hp] at HR1
  rw [decide_eq_false hc] at HR2
  go_enter Try.func6, Try.ntmps6
  obtain ⟨gc, h1⟩ : ∃ g, g = w.heap.size + 1 := ⟨_, rfl⟩
  obtain ⟨gr, h2⟩ : ∃ g, g = w.heap.size + 1 + 1 := ⟨_, rfl⟩
  rw [← h2, ← h1] at H0
  go_wp2_with (refine wpList_load_page rfl _ rfl w.heap.size rfl p H0.out.1 ?_)
  rw [← h2, ← h1]
  refine gen_calls (fun x => Hid (AppIn w gc gr p c x)) H0 ?_
  clear H0 h1 h2
  intro w0 H0
  refine (HR1.out _).mono ?_
  rintro e w1 ⟨rfl, hb1⟩
  have H1 := hide (H0.out.later hb1)
  clear H0 hb1 HR1
  go_wp2_with (refine wpList_load_at rfl 34 _ rfl gc rfl (chA c) H1.out.2.1 _ Try.underlying34 rfl infoCh ?_)
  refine (HR2.out _).mono ?_
  rintro e w2 ⟨rfl, hb2⟩
  have H2 := hide (H1.out.later hb2)
  clear H1 hb2 HR2
  go_wp2_with (refine wpList_store_page rfl _ _ rfl gr Pg.zero Pg.zero rfl rfl H2.out.2.2.1 ?_)
  intro w7 hP7 hk
  have HP7 := hide hP7
  have d7 := hk _ _ H2.out.2.2.2.1 (by have := H2.out.2.2.2.2; omega)
  clear hP7 hk H2
  go_wp2
  exact bodyPost_ret (res_page rfl _ _ gr Pg.zero rfl HP7.out) rfl ⟨rfl, d7⟩

set_option maxRecDepth 4000 in
set_option maxHeartbeats 1600000 in
theorem app_l (p : Pg) (c : Ch) (l : Nat) (w : World) (hp : p.right) (hc : c.right) (hl : ¬ l ≤ maxP) :
    Calls Try.prog 6 #[.agg (pgA p), .agg (chA c), .int .u64 l] w fun e w' => e = .returned (.tuple #[.agg (pgA Pg.zero), .int .i64 1]) ∧ Below w.heap.size w w' := by
  have H0 := hide (app_in w p c)
  have HR1 := hide (fun w => right_any p w)
  have HR2 := hide (fun w => cright_any c w)
  rw [decide_eq_true hp] at HR1
  rw [decide_eq_true hc] at HR2
  have i1 : (4611686018427387904 : Int) < (l : Int) := by unfold maxP at hl; omega
  clear hl
  go_enter Try.func6, Try.ntmps6
  obtain ⟨gc, h1⟩ : ∃ g, g = w.heap.size + 1 := ⟨_, rfl⟩
  obtain ⟨gr, h2⟩ : ∃ g, g = w.heap.size + 1 + 1 := ⟨_, rfl⟩
  rw [← h2, ← h1] at H0
  go_wp2_with (refine wpList_load_page rfl _ rfl w.heap.size rfl p H0.out.1 ?_)
  rw [← h2, ← h1]
  refine gen_calls (fun x => Hid (AppIn w gc gr p c x)) H0 ?_
  clear H0 h1 h2
  intro w0 H0
  refine (HR1.out _).mono ?_
  rintro e w1 ⟨rfl, hb1⟩
  have H1 := hide (H0.out.later hb1)
  clear H0 hb1 HR1
  go_wp2_with (refine wpList_load_at rfl 34 _ rfl gc rfl (chA c) H1.out.2.1 _ Try.underlying34 rfl infoCh ?_)
  refine (HR2.out _).mono ?_
  rintro e w2 ⟨rfl, hb2⟩
  have H2 := hide (H1.out.later hb2)
  clear H1 hb2 HR2
  go_wp2_with (refine wpList_store_page rfl _ _ rfl gr Pg.zero Pg.zero rfl rfl H2.out.2.2.1 ?_)
  intro w7 hP7 hk
  have HP7 := hide hP7
  have d7 := hk _ _ H2.out.2.2.2.1 (by have := H2.out.2.2.2.2; omega)
  clear hP7 hk H2
  go_wp2
  exact bodyPost_ret (res_page rfl _ _ gr Pg.zero rfl HP7.out) rfl ⟨rfl, d7⟩

set_option maxRecDepth 4000 in
set_option maxHeartbeats 1600000 in
theorem app_s (p : Pg) (c : Ch) (l : Nat) (w : World) (hp : p.right) (hc : c.right) (hl : l ≤ maxP) (hs : l ≤ p.l) :
    Calls Try.prog 6 #[.agg (pgA p), .agg (chA c), .int .u64 l] w fun e w' => e = .returned (.tuple #[.agg (pgA Pg.zero), .int .i64 13]) ∧ Below w.heap.size w w' := by
  have H0 := hide (app_in w p c)
  have HR1 := hide (fun w => right_any p w)
  have HR2 := hide (fun w => cright_any c w)
  rw [decide_eq_true hp] at HR1
  rw [decide_eq_true hc] at HR2
  have i1 : ((4611686018427387904 : Int) < (l : Int)) = False := eq_false (by unfold maxP at hl; omega)
  have i2 : (l : Int) ≤ (p.l : Int) := by omega
  clear hl hs
  go_enter Try.func6, Try.ntmps6
  obtain ⟨gc, h1⟩ : ∃ g, g = w.heap.size + 1 := ⟨_, rfl⟩
  obtain ⟨gr, h2⟩ : ∃ g, g = w.heap.size + 1 + 1 := ⟨_, rfl⟩
  rw [← h2, ← h1] at H0
  go_wp2_with (refine wpList_load_page rfl _ rfl w.heap.size rfl p H0.out.1 ?_)
  rw [← h2, ← h1]
  refine gen_calls (fun x => Hid (AppIn w gc gr p c x)) H0 ?_
  clear H0 h1 h2
  intro w0 H0
  refine (HR1.out _).mono ?_
  rintro e w1 ⟨rfl, hb1⟩
  have H1 := hide (H0.out.later hb1)
  clear H0 hb1 HR1
  go_wp2_with (refine wpList_load_at rfl 34 _ rfl gc rfl (chA c) H1.out.2.1 _ Try.underlying34 rfl infoCh ?_)
  refine (HR2.out _).mono ?_
  rintro e w2 ⟨rfl, hb2⟩
  have H2 := hide (H1.out.later hb2)
  clear H1 hb2 HR2
  have a0 := H2.out.1.lsn
  go_wp2_with (refine wpList_store_page rfl _ _ rfl gr Pg.zero Pg.zero rfl rfl H2.out.2.2.1 ?_)
  intro w7 hP7 hk
  have HP7 := hide hP7
  have d7 := hk _ _ H2.out.2.2.2.1 (by have := H2.out.2.2.2.2; omega)
  clear hP7 hk H2
  go_wp2
  exact bodyPost_ret (res_page rfl _ _ gr Pg.zero rfl HP7.out) rfl ⟨rfl, d7⟩

/-- THE CONTRACT. -/
theorem apply_any (p : Pg) (c : Ch) (l : Nat) (w : World) (hl : l < 18446744073709551616) :
    Calls Try.prog 6 #[.agg (pgA p), .agg (chA c), .int .u64 l] w fun e w' => e = .returned (.tuple #[.agg (pgA (appP p c l)), .int .i64 (appE p c l)]) ∧ Below w.heap.size w w' := by
  by_cases hp : p.right
  · by_cases hc : c.right
    · by_cases hl : l ≤ maxP
      · by_cases hs : l ≤ p.l
        · have e : appE p c l = 13 := by unfold appE; rw [if_neg (fun h => h ⟨hp, hc, hl⟩), if_pos hs]
          rw [app_no p c l (by rw [e]; decide), e]
          exact app_s p c l w hp hc hl hs
        · exact app_go p c l w hp hc hl (by omega)
      · have e : appE p c l = 1 := by unfold appE; rw [if_pos (fun h => hl h.2.2)]
        rw [app_no p c l (by rw [e]; decide), e]
        exact app_l p c l w hp hc hl
    · have e : appE p c l = 1 := by unfold appE; rw [if_pos (fun h => hc h.2.1)]
      rw [app_no p c l (by rw [e]; decide), e]
      exact app_c p c l w hp hc
  · have e : appE p c l = 1 := by unfold appE; rw [if_pos (fun h => hp h.1)]
    rw [app_no p c l (by rw [e]; decide), e]
    exact appl_p p c l w hp
end Go.Proofs.Ytcehppekcbbaaab
