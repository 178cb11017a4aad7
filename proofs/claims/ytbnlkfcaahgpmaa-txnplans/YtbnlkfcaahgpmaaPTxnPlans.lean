/-
  Of any records Plan answers the records that the document says of a log, and ErrForm where they are none. TxnPlans returns true for every input, and its arguments read as before.
  Condition: none but those that the form of every such statement bears by itself (each string within the reach).
-/
import Derived.Test.YtbnlkfcaahgpmaaRows
import Derived.ProofKit
import Derived.OpenShut
import Derived.ShutString
import Derived.SizedLaws
import Derived.JoinedCond
import Derived.Test.YtbnlkfcaahgpmaaK10
import Derived.Test.YtbnlkfcaahgpmaaK13

/-
  The walk of TxnPlans.
-/
namespace Go.Proofs.Ytbnlkfcaahgpmaa.txnPlans
open Go.RowKit
set_option linter.unusedVariables false

set_option maxRecDepth 8000 in
set_option maxHeartbeats 6400000 in
theorem walk (v0 : Value) (ms : List (Rec × Value × Value)) (t a2 : Int) (W : World) (ha : RsIn W v0 ms) (hb : ms.length ≤ maxLen) (hc : ∀ a len cap, v0 = .slice a len cap → len ≤ cap) (hw1 : (Lit.int .i64 t).wf = true) (hw2 : (Lit.int .u64 a2).wf = true) :
    Calls Try.prog 5 #[v0, .int .i64 t, .int .u64 a2] W fun e w' => e = .returned (.bool true) ∧ Below W.heap.size W w' := by
  obtain ⟨u, rfl⟩ := u64_nat hw2
  clear hw1 hw2
  have HAW := hide (fun w => awake15 w)
  have HRS := hide ha
  have HC := hide hc
  obtain ⟨⟨aa, ca, rfl, -⟩, -⟩ := ha
  clear hc
  have hb' : ms.length ≤ 9223372036854775807 := hb
  clear hb
  by_cases hbig : 300 < ms.length
  · obtain ⟨ln, hln⟩ : ∃ ln, ln = ms.length := ⟨_, rfl⟩
    rw [← hln] at hbig hb' HRS HC ⊢
    clear hln
    have i1 : (ln : Int) > 300 := by omega
    go_enter Try.func5, Try.ntmps5
    go_wp2_with fail
    refine (HAW.out W).mono ?_
    rintro e w1 ⟨rfl, hb1⟩
    have H1 := hide hb1
    clear hb1
    go_wp2_with fail
    refine (HAW.out w1).mono ?_
    rintro e w2 ⟨rfl, hb2⟩
    have H2 := hide (H1.out.trans (hb2.mono H1.out.size))
    clear hb2 H1
    go_wp2
    go_ret
    exact ⟨rfl, H2.out⟩
  · have HL : Hid (LogIn W (.slice aa ms.length ca) ms) := ⟨HRS.out, by omega, HC.out⟩
    have HPL := hide (fun w (h : Below W.heap.size W w) => Plan15 _ ms t u w (HL.out.below h))
    have HGO := hide (fun w (h : Below W.heap.size W w) => rgood15 _ ms w (HL.out.below h))
    have HRP := hide (fun (hr : Rise 0 (msR ms)) w (h : Below W.heap.size W w) => rplan15 _ ms t u w (HL.out.below h) hr)
    have HFW : Hid (Rise 0 (msR ms) → (planT (msR ms) t u).length ≤ 1000) := fun hr => by
      have h1 := plan_few hr u _ (nextT (msR ms) (lastT (msR ms) t)) (Nat.le_refl _) (nextT_again hr _)
      rw [msR_len] at h1
      unfold planT
      omega
    obtain ⟨ln, hln⟩ : ∃ ln, ln = ms.length := ⟨_, rfl⟩
    rw [← hln] at hbig hb' HRS HC HL HPL HGO HRP ⊢
    clear hln HRS HC HL
    have i1 : ¬ (ln : Int) > 300 := by omega
    go_enter Try.func5, Try.ntmps5
    go_wp2_with fail
    refine (HAW.out W).mono ?_
    rintro e w1 ⟨rfl, hb1⟩
    have H1 := hide hb1
    clear hb1 HAW
    go_wp2_with fail
    refine (HPL.out w1 H1.out).mono ?_
    rintro e w2 ⟨hcase, hb2⟩
    have H2 := hide (H1.out.trans (hb2.mono H1.out.size))
    rcases hcase with ⟨hr, vp, rfl, hown⟩ | ⟨hr, rfl⟩
    · rw [(riseB_iff _ _).2 hr] at HGO
      have HP2 := hide (HRP.out hr)
      have hfew := HFW.out hr
      generalize planT (msR ms) t u = all at *
      have HOW := hide hown
      clear hr hown hb2 H1 HPL HRP HFW
      go_wp2_with fail
      refine (HGO.out w2 H2.out).mono ?_
      rintro e w3 ⟨rfl, hb3⟩
      have H3 : Hid (OwnL w3 w1.heap.size vp all ∧ Below W.heap.size W w3) := ⟨HOW.out.later hb3, H2.out.trans (hb3.mono H2.out.size)⟩
      clear hb3 H2 HGO HOW
      go_wp2_with fail
      refine (HP2.out w3 H3.out.2).mono ?_
      rintro e w4 ⟨⟨vq, rfl, hq⟩, hb4⟩
      have H4 : Hid (RsIn w4 vp (bareMs all) ∧ RsIn w4 vq (bareMs all) ∧ Below W.heap.size W w4) := ⟨(H3.out.1.later hb4).rs, hq.rs, H3.out.2.trans (hb4.mono H3.out.2.size)⟩
      clear hb4 H3 hq HP2
      have HLI := hide (rlist_any vp vq (bareMs all) (bareMs all) w4 H4.out.1 H4.out.2.1 rfl (by rw [bareMs_len]; omega))
      go_wp2_with fail
      refine HLI.out.mono ?_
      rintro e w5 ⟨rfl, hb5⟩
      have H5 := hide (H4.out.2.2.trans (hb5.mono H4.out.2.2.size))
      clear hb5 H4 HLI
      go_wp2
      go_ret
      exact ⟨rfl, H5.out⟩
    · rw [riseB_no hr] at HGO
      clear hr hb2 H1 HPL HRP HFW
      go_wp2_with fail
      refine (HGO.out w2 H2.out).mono ?_
      rintro e w3 ⟨rfl, hb3⟩
      have H3 := hide (H2.out.trans (hb3.mono H2.out.size))
      clear hb3 H2 HGO
      go_wp2
      go_ret
      exact ⟨rfl, H3.out⟩
end Go.Proofs.Ytbnlkfcaahgpmaa.txnPlans

namespace Go.Proofs.Ytbnlkfcaahgpmaa.txnPlans
open Go.ChangeShapes Go.WideShapes Go.ChangeAt Go.RowKit
open Go.ChangeMaps (open_string shut_string)
set_option linter.unusedVariables false

theorem laidOut : laidOutB Try.prog = true := by kernel_rfl
theorem own : ownKnob Try.prog.godebug = none := by kernel_rfl

set_option maxRecDepth 100000 in
theorem lifted (os : Os) (started : os.Started) (H : Type) (enc : TypeId × Value → H) :
    ReturnsInHanded {} Try.checked os 5 .any (Rows.txnPlansSpec.pre6 enc Try.prog Try.f5 Rows.txnPlansRow.domain false) (Rows.txnPlansSpec.post enc Try.prog Try.f5 false true false false) := by
  refine returnsInHanded_of_change_sized (C := Try.checked) own started (by kernel_rfl) Try.func5
    (ChangeSpec.witness6 (enc := enc) (C := Try.checked) false ⟨#[], #[.slice none 0 0, .int .i64 0, .int .u64 0], []⟩ 8 (by kernel_rfl) (by kernel_rfl) (by kernel_rfl) (by kernel_rfl)) ?_
  intro W base args ds gs before hval0 hW hcnd hsz0 _
  have hval : ∀ (j : Nat) t v, Try.f5.params[j]? = some t → args[j]? = some v → Value.okWide Try.prog W .any base t v := hval0
  have hsz : (DataW.weightsEach Try.prog (Try.f5.params.toList ++ Rows.txnPlansSpec.plain.varTypes Try.prog) (ds ++ gs)).all (· ≤ reachBytes) = true := hsz0
  have hW' := hW
  obtain ⟨p, q, hA0, hV, rfl, hfz, hnd⟩ := hW
  have hA : DataW.TrodAll enc Try.prog W 0 (fun _ => true) true Try.f5.params.toList args.toList ds p := hA0
  rw [Try.params5] at hA hval hsz
  obtain ⟨v0, vs0, d0, ds0, p0, q0, hargs, rfl, rfl, h0, r0⟩ := trodAll_cons hA
  obtain ⟨v1, vs1, d1, ds1, p1, q1, rfl, rfl, rfl, h1, r1⟩ := trodAll_cons r0
  obtain ⟨v2, vs2, d2, ds2, p2, q2, rfl, rfl, rfl, h2, r2⟩ := trodAll_cons r1
  obtain ⟨rfl, rfl, rfl⟩ := trodAll_nil r2
  obtain rfl : args = #[v0, v1, v2] := by cases args; simp_all
  obtain ⟨rfl, rfl⟩ := trodVars_none hV
  have k0 := h0
  have lt0 := trod_places h0
  obtain ⟨a1, rfl, rfl, rfl, w1⟩ := open_int Try.underlying3 (hval 1 3 v1 rfl rfl) h1
  obtain ⟨a2, rfl, rfl, rfl, w2⟩ := open_int Try.underlying23 (hval 2 23 v2 rfl rfl) h2
  obtain ⟨m0, w0a, w0b, w0c⟩ := op_recs_arg (hval 0 22 v0 rfl rfl) h0
  clear hA0 hval0 hsz0 hsz
  refine (walk v0 m0 a1 a2 W w0a w0b w0c w1 w2).mono fun e W' ⟨he, bel⟩ => ?_
  subst he
  exact ⟨_, rfl, _, _, _, [], _, [], hW', trodAll_mk1 (shut_bool Try.underlying4 _), (trodAll_cons_mk (Below.trod laidOut (by kernel_rfl) (of_decide_eq_true (by kernel_rfl)) k0 bel lt0) (trodAll_cons_mk (shut_int Try.underlying3 w1) (trodAll_cons_mk (shut_int Try.underlying23 w2) trodAll_mk0))), rfl, bel.frame _, fun h => by cases h⟩

theorem over : Rows.txnPlansRow.holds Try.pinned (OpenSpec.ofChange Rows.txnPlansSpec) :=
  OpenClaim.holds_of_wide 5 Try.f5 rfl rfl rfl rfl rfl rfl rfl ⟨rfl, rfl, rfl, rfl, rfl⟩ rfl rfl rfl rfl rfl (by kernel_rfl) Try.func5 (by kernel_rfl)
    (of_decide_eq_true (by kernel_rfl)) (by unfold Func.isWrapper; first | (rw [if_pos (by decide +kernel)]; kernel_rfl) | (rw [if_neg (by decide +kernel)]; exact ⟨rfl, rfl⟩))
    (fun os started H enc _ => lifted os started H enc)

/-- THE STATEMENT. -/
theorem proved : Rows.TxnPlansSaid := over
end Go.Proofs.Ytbnlkfcaahgpmaa.txnPlans
namespace Go.Proofs.Ytbnlkfcaahgpmaa
theorem txnPlans_proved : Rows.TxnPlansSaid := txnPlans.proved
end Go.Proofs.Ytbnlkfcaahgpmaa
