/-
  A nil log keeps nothing, and there is none without a tape. WalNil returns true for every input, and its arguments read as before.
  Condition: none but those that the form of every such statement bears by itself (each string within the reach).
-/
import Derived.Test.YtmdhnfeepadfaaaRows
import Derived.ProofKit
import Derived.OpenShut
import Derived.ShutString
import Derived.SizedLaws
import Derived.JoinedCond
import Derived.Test.YtmdhnfeepadfaaaK15
import Derived.Test.YtmdhnfeepadfaaaK16

/-
  The walk of WalNil.
-/
namespace Go.Proofs.Ytmdhnfeepadfaaa.walNil
open Go.RowKit
set_option linter.unusedVariables false

set_option maxRecDepth 4000 in
set_option maxHeartbeats 400000 in
theorem see_n (n : Int) (w : World) : Calls Try.prog 14 #[.pointer none, .int .u64 n] w fun e w' => e = .returned (.tuple #[]) ∧ w = w' := by
  go_enter Try.func14, Try.ntmps14
  go_wp2
  refine bodyPost_ret (results_none rfl _ _ _) rfl ?_
  exact ⟨rfl, rfl⟩
set_option maxRecDepth 4000 in
set_option maxHeartbeats 800000 in
theorem app_n (A : Array Value) (f h : Int) (w : World) : Calls Try.prog 10 #[.pointer none, .agg A, .int .u64 f, .int .i64 h] w fun e w' => e = .returned (.tuple #[.int .u64 0, .int .i64 1]) ∧ Below w.heap.size w w' := by
  have HB := hide ((Below.refl w.heap.size w).alloc (Nat.le_refl _) (.cells A 28))
  go_enter Try.func10, Try.ntmps10
  go_wp2_with fail
  refine (hastape9_nil _).mono ?_
  rintro e w1 ⟨rfl, rfl⟩
  go_wp2
  go_ret2
  exact ⟨rfl, HB.out⟩
set_option maxRecDepth 4000 in
set_option maxHeartbeats 400000 in
theorem write_n (w : World) : Calls Try.prog 16 #[.pointer none] w fun e w' => e = .returned (.int .i64 1) ∧ w = w' := by
  go_enter Try.func16, Try.ntmps16
  go_wp2_with fail
  refine (hastape9_nil _).mono ?_
  rintro e w1 ⟨rfl, rfl⟩
  go_wp2
  go_ret
  exact ⟨rfl, rfl⟩
set_option maxRecDepth 4000 in
set_option maxHeartbeats 400000 in
theorem sync_n (w : World) : Calls Try.prog 17 #[.pointer none] w fun e w' => e = .returned (.int .i64 1) ∧ w = w' := by
  go_enter Try.func17, Try.ntmps17
  go_wp2_with fail
  refine (hastape9_nil _).mono ?_
  rintro e w1 ⟨rfl, rfl⟩
  go_wp2
  go_ret
  exact ⟨rfl, rfl⟩
set_option maxRecDepth 4000 in
set_option maxHeartbeats 400000 in
theorem trim_n (n : Int) (w : World) : Calls Try.prog 15 #[.pointer none, .int .u64 n] w fun e w' => e = .returned (.tuple #[.int .i64 0, .int .i64 1]) ∧ w = w' := by
  go_enter Try.func15, Try.ntmps15
  go_wp2_with fail
  refine (hastape9_nil _).mono ?_
  rintro e w1 ⟨rfl, rfl⟩
  go_wp2
  go_ret2
  exact ⟨rfl, rfl⟩
set_option maxRecDepth 4000 in
set_option maxHeartbeats 800000 in
theorem get_n (n : Int) (w : World) : Calls Try.prog 13 #[.pointer none, .int .u64 n] w fun e w' => e = .returned (.tuple #[.agg zeroA, .bool false]) ∧ Below w.heap.size w w' := by
  have HZ := hide (And.intro (RowAt.new w 28 zeroA) ((Below.refl w.heap.size w).alloc (Nat.le_refl _) (.cells zeroA 28)))
  go_enter Try.func13, Try.ntmps13
  go_wp2_with (refine wpList_store_at rfl 28 (.tmp 4) (.tmp 10) rfl w.heap.size zeroA zeroA rfl rfl HZ.out.1 infoRc rfl (by simp [zeroA, Value.oneCell']) ?_)
  intro w3 hr3 hk3 hrow3
  have hb3 := hk3 _ _ HZ.out.2 (Nat.le_refl _)
  have HR := hide (And.intro hr3 hb3)
  clear hr3 hk3 hrow3 hb3 HZ
  go_wp2
  exact bodyPost_ret (res_at rfl _ _ w.heap.size zeroA _ rfl HR.out.1 Try.underlying28 rfl infoRc) rfl ⟨rfl, HR.out.2⟩
set_option maxRecDepth 4000 in
set_option maxHeartbeats 400000 in
theorem recs_n (w : World) : Calls Try.prog 11 #[.pointer none] w fun e w' => e = .returned (.slice none 0 0) ∧ w = w' := by
  go_enter Try.func11, Try.ntmps11
  go_wp2
  go_ret
  exact ⟨rfl, rfl⟩
set_option maxRecDepth 4000 in
set_option maxHeartbeats 400000 in
theorem last_n (w : World) : Calls Try.prog 18 #[.pointer none] w fun e w' => e = .returned (.int .u64 0) ∧ w = w' := by
  go_enter Try.func18, Try.ntmps18
  go_wp2
  go_ret
  exact ⟨rfl, rfl⟩
set_option maxRecDepth 4000 in
set_option maxHeartbeats 400000 in
theorem dur_n (w : World) : Calls Try.prog 19 #[.pointer none] w fun e w' => e = .returned (.int .u64 0) ∧ w = w' := by
  go_enter Try.func19, Try.ntmps19
  go_wp2
  go_ret
  exact ⟨rfl, rfl⟩
set_option maxRecDepth 4000 in
set_option maxHeartbeats 800000 in
theorem pend_n (w : World) : Calls Try.prog 20 #[.pointer none] w fun e w' => e = .returned (.int .u64 0) ∧ Below w.heap.size w w' := by
  go_enter Try.func20, Try.ntmps20
  go_wp2_with fail
  go_region
  go_wp2
  go_ret
  exact ⟨rfl, below_dn (Below.refl _ _) 1⟩
set_option maxRecDepth 4000 in
set_option maxHeartbeats 400000 in
theorem held_n (w : World) : Calls Try.prog 21 #[.pointer none] w fun e w' => e = .returned (.int .i64 0) ∧ w = w' := by
  go_enter Try.func21, Try.ntmps21
  go_wp2
  go_ret
  exact ⟨rfl, rfl⟩
set_option maxRecDepth 4000 in
set_option maxHeartbeats 400000 in
theorem left_n (w : World) : Calls Try.prog 22 #[.pointer none] w fun e w' => e = .returned (.int .i64 0) ∧ w = w' := by
  go_enter Try.func22, Try.ntmps22
  go_wp2
  go_ret
  exact ⟨rfl, rfl⟩

set_option maxRecDepth 8000 in
set_option maxHeartbeats 3200000 in
theorem walk (c : Wc) (w : World) (hf : c.fits) (hin : RcIn w c.m.1 c.m.2.1 c.m.2.2) :
    Calls Try.prog 4 #[.agg (wcA c)] w fun e w' => e = .returned (.bool true) ∧ Below w.heap.size w w' := by
  have H0 := hide (And.intro (RowAt.new w 49 (wcA c)) ((Below.refl w.heap.size w).alloc (Nat.le_refl _) (.cells (wcA c) 49)))
  obtain ⟨go, hgo⟩ : ∃ go, go = w.heap.size := ⟨_, rfl⟩
  rw [← hgo] at H0
  have HGO := hide hgo
  clear hgo
  go_enter Try.func4, Try.ntmps4
  go_wp2_with fail
  rw [← HGO.out]
  refine (awake9_any _).mono ?_
  rintro e w1 ⟨rfl, hb1⟩
  have H1 := hide (And.intro (H0.out.1.later hb1) (H0.out.2.trans (hb1.mono (Nat.le_of_lt H0.out.1.lt))))
  clear hb1 H0
  have z15 := H1.out.1.cell 15 (.int .u64 (c.n : Int)) rfl
  have z16 := H1.out.1.cell 16 (.int .i64 c.h) rfl
  have HWR := hide (load_wr w1 go c H1.out.1)
  go_wp2_with fail
  refine (open9_nil c.n w1).mono ?_
  rintro e w2 ⟨rfl, rfl⟩
  go_wp2_with fail
  refine (see_n _ w1).mono ?_
  rintro e w2 ⟨rfl, rfl⟩
  go_wp2_with (refine wpList_load_val rfl 28 (.tmp 26) rfl _ _ rfl HWR.out ?_)
  refine (app_n _ _ _ w1).mono ?_
  rintro e w2 ⟨rfl, hb2⟩
  have H2 := hide (And.intro (H1.out.1.later hb2) (H1.out.2.trans (hb2.mono (Nat.le_of_lt H1.out.1.lt))))
  clear hb2 H1 HWR z15 z16
  have z15 := H2.out.1.cell 15 (.int .u64 (c.n : Int)) rfl
  go_wp2_with fail
  refine (trim_n _ w2).mono ?_
  rintro e w3 ⟨rfl, rfl⟩
  go_wp2_with fail
  refine (get_n _ w2).mono ?_
  rintro e w3 ⟨rfl, hb3⟩
  have hb4 : Below w3.heap.size w3 (w3.alloc (.cells zeroA 28)) := (Below.refl _ _).alloc (Nat.le_refl _) _
  have H3 := hide (And.intro (RowAt.new w3 28 zeroA) (And.intro hb4 (H2.out.2.trans (hb3.mono (Nat.le_of_lt H2.out.1.lt)))))
  have hgs : go ≤ w3.heap.size := Nat.le_trans (Nat.le_of_lt H2.out.1.lt) hb3.size
  clear hb3 hb4 H2 z15
  go_wp2_with (refine wpList_store_at rfl 28 (.tmp 10) (.tmp 47) rfl w3.heap.size zeroA zeroA rfl rfl H3.out.1 infoRc rfl (by simp [zeroA, Value.oneCell']) ?_; intro w4 hr4 hk4 hrow4; refine stop9 ?_)
  have hb4 := hk4 _ _ (H3.out.2.2.trans (H3.out.2.1.mono hgs)) hgs
  have H4 := hide hb4
  clear hr4 hk4 hrow4 hb4 H3 hgs
  refine unstop9 ?_
  go_wp2_with fail
  refine (write_n w4).mono ?_
  rintro e w5 ⟨rfl, rfl⟩
  go_wp2_with fail
  refine (sync_n w4).mono ?_
  rintro e w5 ⟨rfl, rfl⟩
  go_wp2_with fail
  refine (recs_n w4).mono ?_
  rintro e w5 ⟨rfl, rfl⟩
  go_wp2_with fail
  refine (last_n w4).mono ?_
  rintro e w5 ⟨rfl, rfl⟩
  go_wp2_with fail
  refine (dur_n w4).mono ?_
  rintro e w5 ⟨rfl, rfl⟩
  go_wp2_with fail
  refine (pend_n w4).mono ?_
  rintro e w5 ⟨rfl, hb5⟩
  have H5 := hide (H4.out.trans (hb5.mono (by have := H4.out.size; have := HGO.out; omega)))
  clear hb5 H4
  go_wp2_with fail
  refine (held_n w5).mono ?_
  rintro e w6 ⟨rfl, rfl⟩
  go_wp2_with fail
  refine (left_n w5).mono ?_
  rintro e w6 ⟨rfl, rfl⟩
  go_wp2
  go_ret
  exact ⟨rfl, by rw [← HGO.out]; exact H5.out⟩
end Go.Proofs.Ytmdhnfeepadfaaa.walNil

namespace Go.Proofs.Ytmdhnfeepadfaaa.walNil
open Go.ChangeShapes Go.WideShapes Go.ChangeAt Go.RowKit
open Go.ChangeMaps (open_string shut_string)
set_option linter.unusedVariables false

theorem laidOut : laidOutB Try.prog = true := by kernel_rfl
theorem own : ownKnob Try.prog.godebug = none := by kernel_rfl

set_option maxRecDepth 100000 in
theorem lifted (os : Os) (started : os.Started) (H : Type) (enc : TypeId × Value → H) :
    ReturnsInHanded {} Try.checked os 4 .any (Rows.walNilSpec.pre6 enc Try.prog Try.f4 Rows.walNilRow.domain false) (Rows.walNilSpec.post enc Try.prog Try.f4 false true false false) := by
  refine returnsInHanded_of_change_sized (C := Try.checked) own started (by kernel_rfl) Try.func4
    (ChangeSpec.witness6 (enc := enc) (C := Try.checked) false ⟨#[], #[.agg #[.int .i64 0, .int .i64 0, .int .u64 0, .int .i64 0, .int .u64 0, .int .i64 0, .int .i64 0, .int .i64 0, .string ByteArray.empty, .string ByteArray.empty, .int .u64 0, .int .i64 0, .int .u64 0, .slice none 0 0, .slice none 0 0, .int .u64 0, .int .i64 0]], []⟩ 8 (by kernel_rfl) (by kernel_rfl) (by kernel_rfl) (by kernel_rfl)) ?_
  intro W base args ds gs before hval0 hW hcnd hsz0 _
  have hval : ∀ (j : Nat) t v, Try.f4.params[j]? = some t → args[j]? = some v → Value.okWide Try.prog W .any base t v := hval0
  have hsz : (DataW.weightsEach Try.prog (Try.f4.params.toList ++ Rows.walNilSpec.plain.varTypes Try.prog) (ds ++ gs)).all (· ≤ reachBytes) = true := hsz0
  have hW' := hW
  obtain ⟨p, q, hA0, hV, rfl, hfz, hnd⟩ := hW
  have hA : DataW.TrodAll enc Try.prog W 0 (fun _ => true) true Try.f4.params.toList args.toList ds p := hA0
  rw [Try.params4] at hA hval hsz
  obtain ⟨v0, vs0, d0, ds0, p0, q0, hargs, rfl, rfl, h0, r0⟩ := trodAll_cons hA
  obtain ⟨rfl, rfl, rfl⟩ := trodAll_nil r0
  obtain rfl : args = #[v0] := by cases args; simp_all
  obtain ⟨rfl, rfl⟩ := trodVars_none hV
  have k0 := h0
  have lt0 := trod_places h0
  obtain ⟨m0, rfl, w0a, w0b⟩ := op_wc (hval 0 49 v0 rfl rfl) h0
  clear hA0 hval0 hsz0 hsz
  refine (walk m0 W w0a w0b).mono fun e W' ⟨he, bel⟩ => ?_
  subst he
  exact ⟨_, rfl, _, _, _, [], _, [], hW', trodAll_mk1 (shut_bool Try.underlying4 _), (trodAll_cons_mk (Below.trod laidOut (by kernel_rfl) (of_decide_eq_true (by kernel_rfl)) k0 bel lt0) trodAll_mk0), rfl, bel.frame _, fun h => by cases h⟩

theorem over : Rows.walNilRow.holds Try.pinned (OpenSpec.ofChange Rows.walNilSpec) :=
  OpenClaim.holds_of_wide 4 Try.f4 rfl rfl rfl rfl rfl rfl rfl ⟨rfl, rfl, rfl, rfl, rfl⟩ rfl rfl rfl rfl rfl (by kernel_rfl) Try.func4 (by kernel_rfl)
    (of_decide_eq_true (by kernel_rfl)) (by unfold Func.isWrapper; first | (rw [if_pos (by decide +kernel)]; kernel_rfl) | (rw [if_neg (by decide +kernel)]; exact ⟨rfl, rfl⟩))
    (fun os started H enc _ => lifted os started H enc)

/-- THE STATEMENT. -/
theorem proved : Rows.WalNilSaid := over
end Go.Proofs.Ytmdhnfeepadfaaa.walNil
namespace Go.Proofs.Ytmdhnfeepadfaaa
theorem walNil_proved : Rows.WalNilSaid := walNil.proved
end Go.Proofs.Ytmdhnfeepadfaaa
