/-
  The contract of the code's Crash.
-/
import Derived.Test.YtkdlmblkckmhaaaTapeChop
namespace Go.Proofs.Ytkdlmblkckmhaaa
open Go.RowKit
set_option linter.unusedVariables false

set_option maxRecDepth 4000 in
set_option maxHeartbeats 1600000 in
theorem crash8_all (gt gb cap : Nat) (a : Option Addr) (t : Tp) (r : Nat) (k : Int) (hr : t.b.size = t.f + r) (h1 : (r : Int) < k) (h0 : 0 < r) (w : World) (h : TpV w gt gb cap a t) (ok : t.ok) (hcap : t.b.size ≤ cap) :
    Calls Try.prog 19 #[.pointer (some ⟨gt, 0, none⟩), .int .i64 k] w fun e w' => e = .returned (.tuple #[]) ∧ TpV w' gt gb cap a ⟨t.b.extract 0 (t.f + r), t.f + r, t.m, t.s⟩ ∧ Turn gt gb w w' := by
  have H := hide h
  have hz := ok.few
  have hy := ok.room
  have hx := ok.fast
  have hlm : t.f + r ≤ t.b.size := by omega
  have HLM := hide hlm
  have ew : IntKind.i64.wrap ((t.b.size : Int) - (t.f : Int)) = (r : Int) := by rw [IntKind.wrap_i64]; omega
  have h2 : (0 : Int) < (r : Int) := by omega
  have h3 : (0 : Int) < k := by omega
  have e1 : IntKind.i64.wrap ((t.f : Int) + (r : Int)) = (t.f : Int) + (r : Int) := by rw [IntKind.wrap_i64]; omega
  have e2 : (0 : Int) ≤ (t.f : Int) + (r : Int) := by omega
  have e3 : (t.f : Int) + (r : Int) ≤ (cap : Int) := by omega
  clear h ok
  have HR := hide hr
  clear hr
  go_enter Try.func19, Try.ntmps19
  go_wp2_with fail
  refine wp_region_in (fun x => TpV x gt gb cap a t ∧ Turn gt gb w x) (by kernel_rfl) (by kernel_rfl) ⟨H.out.drew, (Turn.refl gt gb w).drew⟩ ?_
  repeat (first
    | go_big_quiet_skip
    | (refine wpQuiet_load rfl 3 _ rfl _ (.int .i64 (t.f : Int)) rfl (fun y hy => load8_n y _ (hy.1.1.cell 1 _ rfl)) ?_; simp only [Act.put, Array.setIfInBounds, List.size_toArray, List.length_cons, List.length_nil, Nat.reduceAdd, Nat.reduceLT, ↓reduceDIte, List.set_toArray, List.set_cons_succ, List.set_cons_zero])
    | (refine wpQuiet_load rfl 29 _ rfl _ (.slice a t.b.size cap) rfl (fun y hy => load8_sl y _ _ _ (hy.1.1.cell 0 _ rfl)) ?_; simp only [Act.put, Array.setIfInBounds, List.size_toArray, List.length_cons, List.length_nil, Nat.reduceAdd, Nat.reduceLT, ↓reduceDIte, List.set_toArray, List.set_cons_succ, List.set_cons_zero])
    | (refine wpQuiet_plain rfl (fun K hK => ?_); go_simp; (try simp only [ew]); refine hK _ ?_; clear hK K))
  refine wpQuiet_nil ?_
  intro x hx
  have HX := hide hx
  have c0 := hx.1.1.cell 0 (.slice a t.b.size cap) rfl
  have c1 := hx.1.1.cell 1 (.int .i64 (t.f : Int)) rfl
  have f0 := hx.1.1.free 0
  have f1 := hx.1.1.free 1
  clear hx
  go_wp2_with fail
  go_region
  go_wp2
  go_end0
  exact ⟨rfl, (HX.out.1.drew.first (t.f + r) HLM.out).setf _ _ (by omega), (HX.out.2.drew.set 0 _).set 1 _⟩

set_option maxRecDepth 4000 in
set_option maxHeartbeats 1600000 in
theorem crash8_some (gt gb cap : Nat) (a : Option Addr) (t : Tp) (r : Nat) (n : Nat) (k : Int) (hk : k = (n : Int)) (hr : t.b.size = t.f + r) (h1 : n ≤ r) (h0 : 0 < n) (w : World) (h : TpV w gt gb cap a t) (ok : t.ok) (hcap : t.b.size ≤ cap) :
    Calls Try.prog 19 #[.pointer (some ⟨gt, 0, none⟩), .int .i64 k] w fun e w' => e = .returned (.tuple #[]) ∧ TpV w' gt gb cap a ⟨t.b.extract 0 (t.f + n), t.f + n, t.m, t.s⟩ ∧ Turn gt gb w w' := by
  have H := hide h
  have hz := ok.few
  have hy := ok.room
  have hx := ok.fast
  subst hk
  have hlm : t.f + n ≤ t.b.size := by omega
  have HLM := hide hlm
  have ew : IntKind.i64.wrap ((t.b.size : Int) - (t.f : Int)) = (r : Int) := by rw [IntKind.wrap_i64]; omega
  have h2 : (0 : Int) < (n : Int) := by omega
  have h3 : ¬ (r : Int) < (n : Int) := by omega
  have e1 : IntKind.i64.wrap ((t.f : Int) + (n : Int)) = (t.f : Int) + (n : Int) := by rw [IntKind.wrap_i64]; omega
  have e2 : (0 : Int) ≤ (t.f : Int) + (n : Int) := by omega
  have e3 : (t.f : Int) + (n : Int) ≤ (cap : Int) := by omega
  clear h ok
  have HR := hide hr
  clear hr
  go_enter Try.func19, Try.ntmps19
  go_wp2_with fail
  refine wp_region_in (fun x => TpV x gt gb cap a t ∧ Turn gt gb w x) (by kernel_rfl) (by kernel_rfl) ⟨H.out.drew, (Turn.refl gt gb w).drew⟩ ?_
  repeat (first
    | go_big_quiet_skip
    | (refine wpQuiet_load rfl 3 _ rfl _ (.int .i64 (t.f : Int)) rfl (fun y hy => load8_n y _ (hy.1.1.cell 1 _ rfl)) ?_; simp only [Act.put, Array.setIfInBounds, List.size_toArray, List.length_cons, List.length_nil, Nat.reduceAdd, Nat.reduceLT, ↓reduceDIte, List.set_toArray, List.set_cons_succ, List.set_cons_zero])
    | (refine wpQuiet_load rfl 29 _ rfl _ (.slice a t.b.size cap) rfl (fun y hy => load8_sl y _ _ _ (hy.1.1.cell 0 _ rfl)) ?_; simp only [Act.put, Array.setIfInBounds, List.size_toArray, List.length_cons, List.length_nil, Nat.reduceAdd, Nat.reduceLT, ↓reduceDIte, List.set_toArray, List.set_cons_succ, List.set_cons_zero])
    | (refine wpQuiet_plain rfl (fun K hK => ?_); go_simp; (try simp only [ew]); refine hK _ ?_; clear hK K))
  refine wpQuiet_nil ?_
  intro x hx
  have HX := hide hx
  have c0 := hx.1.1.cell 0 (.slice a t.b.size cap) rfl
  have c1 := hx.1.1.cell 1 (.int .i64 (t.f : Int)) rfl
  have f0 := hx.1.1.free 0
  have f1 := hx.1.1.free 1
  clear hx
  go_wp2_with fail
  go_region
  go_wp2
  go_end0
  exact ⟨rfl, (HX.out.1.drew.first (t.f + n) HLM.out).setf _ _ (by omega), (HX.out.2.drew.set 0 _).set 1 _⟩

set_option maxRecDepth 4000 in
set_option maxHeartbeats 1600000 in
theorem crash8_none (gt gb cap : Nat) (a : Option Addr) (t : Tp) (r : Nat) (k : Int) (hr : t.b.size = t.f + r) (h1 : k ≤ 0) (w : World) (h : TpV w gt gb cap a t) (ok : t.ok) (hcap : t.b.size ≤ cap) :
    Calls Try.prog 19 #[.pointer (some ⟨gt, 0, none⟩), .int .i64 k] w fun e w' => e = .returned (.tuple #[]) ∧ TpV w' gt gb cap a ⟨t.b.extract 0 (t.f), t.f, t.m, t.s⟩ ∧ Turn gt gb w w' := by
  have H := hide h
  have hz := ok.few
  have hy := ok.room
  have hx := ok.fast
  have hlm : t.f ≤ t.b.size := by omega
  have HLM := hide hlm
  have ew : IntKind.i64.wrap ((t.b.size : Int) - (t.f : Int)) = (r : Int) := by rw [IntKind.wrap_i64]; omega
  have h2 : ¬ (0 : Int) < k := by omega
  have ek : (if k < 0 then (0 : Int) else k) = 0 := by
    by_cases g : k < 0
    · rw [if_pos g]
    · rw [if_neg g]
      omega
  have em : (if (r : Int) < 0 then (r : Int) else 0) = 0 := if_neg (by omega)
  have e1 : IntKind.i64.wrap (t.f : Int) = (t.f : Int) := by rw [IntKind.wrap_i64]; omega
  have e2 : (0 : Int) ≤ (t.f : Int) := by omega
  have e3 : (t.f : Int) ≤ (cap : Int) := by omega
  clear h ok
  have HR := hide hr
  clear hr
  go_enter Try.func19, Try.ntmps19
  go_wp2_with fail
  refine wp_region_in (fun x => TpV x gt gb cap a t ∧ Turn gt gb w x) (by kernel_rfl) (by kernel_rfl) ⟨H.out.drew, (Turn.refl gt gb w).drew⟩ ?_
  repeat (first
    | go_big_quiet_skip
    | (refine wpQuiet_load rfl 3 _ rfl _ (.int .i64 (t.f : Int)) rfl (fun y hy => load8_n y _ (hy.1.1.cell 1 _ rfl)) ?_; simp only [Act.put, Array.setIfInBounds, List.size_toArray, List.length_cons, List.length_nil, Nat.reduceAdd, Nat.reduceLT, ↓reduceDIte, List.set_toArray, List.set_cons_succ, List.set_cons_zero])
    | (refine wpQuiet_load rfl 29 _ rfl _ (.slice a t.b.size cap) rfl (fun y hy => load8_sl y _ _ _ (hy.1.1.cell 0 _ rfl)) ?_; simp only [Act.put, Array.setIfInBounds, List.size_toArray, List.length_cons, List.length_nil, Nat.reduceAdd, Nat.reduceLT, ↓reduceDIte, List.set_toArray, List.set_cons_succ, List.set_cons_zero])
    | (refine wpQuiet_plain rfl (fun K hK => ?_); go_simp; (try simp only [ew, ek, em]); refine hK _ ?_; clear hK K))
  refine wpQuiet_nil ?_
  intro x hx
  have HX := hide hx
  have c0 := hx.1.1.cell 0 (.slice a t.b.size cap) rfl
  have c1 := hx.1.1.cell 1 (.int .i64 (t.f : Int)) rfl
  have f0 := hx.1.1.free 0
  have f1 := hx.1.1.free 1
  clear hx
  go_wp2_with fail
  go_region
  go_wp2
  go_end0
  exact ⟨rfl, (HX.out.1.drew.first (t.f) HLM.out).setf _ _ (by omega), (HX.out.2.drew.set 0 _).set 1 _⟩

set_option maxRecDepth 4000 in
set_option maxHeartbeats 1600000 in
theorem crash8_same (gt gb cap : Nat) (a : Option Addr) (t : Tp) (k : Int) (hr : t.b.size = t.f) (h1 : (0 : Int) < k) (w : World) (h : TpV w gt gb cap a t) (ok : t.ok) (hcap : t.b.size ≤ cap) :
    Calls Try.prog 19 #[.pointer (some ⟨gt, 0, none⟩), .int .i64 k] w fun e w' => e = .returned (.tuple #[]) ∧ TpV w' gt gb cap a ⟨t.b.extract 0 (t.f), t.f, t.m, t.s⟩ ∧ Turn gt gb w w' := by
  have H := hide h
  have hz := ok.few
  have hy := ok.room
  have hx := ok.fast
  have hlm : t.f ≤ t.b.size := by omega
  have HLM := hide hlm
  have ew : IntKind.i64.wrap ((t.b.size : Int) - (t.f : Int)) = 0 := by rw [IntKind.wrap_i64]; omega
  have e1 : IntKind.i64.wrap (t.f : Int) = (t.f : Int) := by rw [IntKind.wrap_i64]; omega
  have e2 : (0 : Int) ≤ (t.f : Int) := by omega
  have e3 : (t.f : Int) ≤ (cap : Int) := by omega
  clear h ok
  have HR := hide hr
  clear hr
  go_enter Try.func19, Try.ntmps19
  go_wp2_with fail
  refine wp_region_in (fun x => TpV x gt gb cap a t ∧ Turn gt gb w x) (by kernel_rfl) (by kernel_rfl) ⟨H.out.drew, (Turn.refl gt gb w).drew⟩ ?_
  repeat (first
    | go_big_quiet_skip
    | (refine wpQuiet_load rfl 3 _ rfl _ (.int .i64 (t.f : Int)) rfl (fun y hy => load8_n y _ (hy.1.1.cell 1 _ rfl)) ?_; simp only [Act.put, Array.setIfInBounds, List.size_toArray, List.length_cons, List.length_nil, Nat.reduceAdd, Nat.reduceLT, ↓reduceDIte, List.set_toArray, List.set_cons_succ, List.set_cons_zero])
    | (refine wpQuiet_load rfl 29 _ rfl _ (.slice a t.b.size cap) rfl (fun y hy => load8_sl y _ _ _ (hy.1.1.cell 0 _ rfl)) ?_; simp only [Act.put, Array.setIfInBounds, List.size_toArray, List.length_cons, List.length_nil, Nat.reduceAdd, Nat.reduceLT, ↓reduceDIte, List.set_toArray, List.set_cons_succ, List.set_cons_zero])
    | (refine wpQuiet_plain rfl (fun K hK => ?_); go_simp; (try simp only [ew]); refine hK _ ?_; clear hK K))
  refine wpQuiet_nil ?_
  intro x hx
  have HX := hide hx
  have c0 := hx.1.1.cell 0 (.slice a t.b.size cap) rfl
  have c1 := hx.1.1.cell 1 (.int .i64 (t.f : Int)) rfl
  have f0 := hx.1.1.free 0
  have f1 := hx.1.1.free 1
  clear hx
  go_wp2_with fail
  go_region
  go_wp2
  go_end0
  exact ⟨rfl, (HX.out.1.drew.first (t.f) HLM.out).setf _ _ (by omega), (HX.out.2.drew.set 0 _).set 1 _⟩

theorem crash8_any (gt gb : Nat) (t : Tp) (k : Int) (w : World) (h : TpAt w gt gb t) (ok : t.ok) :
    Calls Try.prog 19 #[.pointer (some ⟨gt, 0, none⟩), .int .i64 k] w fun e w' => e = .returned (.tuple #[]) ∧ TpAt w' gt gb (t.crash k) ∧ Turn gt gb w w' := by
  obtain ⟨cap, a, h⟩ := h
  have hx := ok.fast
  have hcap : t.b.size ≤ cap := by
    rcases h.own with ⟨_, _, h2, _⟩ | ⟨_, _, _, h2, _⟩ <;> omega
  obtain ⟨r, hr⟩ : ∃ r, t.b.size = t.f + r := ⟨t.b.size - t.f, by omega⟩
  unfold Tp.crash
  by_cases h0 : k ≤ 0
  · have e : t.left k = t.f := by unfold Tp.left; omega
    rw [e]
    exact (crash8_none gt gb cap a t r k hr h0 w h ok hcap).mono fun e w' he => ⟨he.1, ⟨cap, a, he.2.1⟩, he.2.2⟩
  by_cases h1 : (r : Int) < k
  · by_cases h2 : 0 < r
    · have e : t.left k = t.f + r := by unfold Tp.left; omega
      rw [e]
      exact (crash8_all gt gb cap a t r k hr h1 h2 w h ok hcap).mono fun e w' he => ⟨he.1, ⟨cap, a, he.2.1⟩, he.2.2⟩
    · have e : t.left k = t.f := by unfold Tp.left; omega
      rw [e]
      exact (crash8_same gt gb cap a t k (by omega) (by omega) w h ok hcap).mono fun e w' he => ⟨he.1, ⟨cap, a, he.2.1⟩, he.2.2⟩
  · obtain ⟨n, rfl⟩ := Int.eq_ofNat_of_zero_le (show 0 ≤ k by omega)
    have e : t.left (n : Int) = t.f + n := by unfold Tp.left; omega
    rw [e]
    exact (crash8_some gt gb cap a t r n _ rfl hr (by omega) (by omega) w h ok hcap).mono fun e w' he => ⟨he.1, ⟨cap, a, he.2.1⟩, he.2.2⟩
end Go.Proofs.Ytkdlmblkckmhaaa
