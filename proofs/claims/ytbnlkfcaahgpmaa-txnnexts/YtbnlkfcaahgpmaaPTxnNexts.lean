/-
  Of any records Next and Clr answer what the document says of a log, and ErrForm where they are none. TxnNexts returns true for every input, and its arguments read as before.
  Condition: none but those that the form of every such statement bears by itself (each string within the reach).
-/
import Derived.Test.YtbnlkfcaahgpmaaRows
import Derived.ProofKit
import Derived.OpenShut
import Derived.ShutString
import Derived.SizedLaws
import Derived.JoinedCond
import Derived.Test.YtbnlkfcaahgpmaaK10
import Derived.Test.YtbnlkfcaahgpmaaK13
import Derived.Test.YtbnlkfcaahgpmaaK04

/-
  The walk of TxnNexts.
-/
namespace Go.Proofs.Ytbnlkfcaahgpmaa.txnNexts
open Go.RowKit
set_option linter.unusedVariables false

theorem clrA_in {l : List Rec} (hl : Rise 0 l) (n : Nat) (w : World) : (clrA l n).1.1.fits ∧ RcIn w (clrA l n).1.1 (clrA l n).1.2.1 (clrA l n).1.2.2 := by
  rcases getT_cases l n with ⟨_, h1⟩ | ⟨r, h1, h2, h3⟩
  · rw [clrA_none h1]
    exact ⟨zero_fits15, zero_in15 w⟩
  · by_cases hk : r.k = 1
    · rw [← h2, clrA_yes hl h1 hk]
      exact ⟨(clr_bare (rise_right _ 0 hl r h1) hk).2.2, clrM_in _ _ w⟩
    · rw [← h2, clrA_no hl h1 hk]
      exact ⟨zero_fits15, zero_in15 w⟩
set_option maxRecDepth 8000 in
set_option maxHeartbeats 6400000 in
theorem walk (v0 : Value) (ms : List (Rec × Value × Value)) (a1 : Int) (W : World) (ha : RsIn W v0 ms) (hb : ms.length ≤ maxLen) (hc : ∀ a len cap, v0 = .slice a len cap → len ≤ cap) (hw : (Lit.int .u64 a1).wf = true) :
    Calls Try.prog 4 #[v0, .int .u64 a1] W fun e w' => e = .returned (.bool true) ∧ Below W.heap.size W w' := by
  obtain ⟨n, rfl⟩ := u64_nat hw
  clear hw
  have HAW := hide (fun w => awake15 w)
  have HRS := hide ha
  have HC := hide hc
  obtain ⟨⟨aa, ca, rfl, -⟩, -⟩ := ha
  clear hc
  have hb' : ms.length ≤ 9223372036854775807 := hb
  clear hb
  by_cases hbig : 300 < ms.length
  · obtain ⟨ln, hln⟩ : ∃ ln, ln = ms.length := ⟨_, rfl⟩
    rw [← hln] at hbig hb' HRS HC ⊢
    clear hln
    have i1 : (ln : Int) > 300 := by omega
    go_enter Try.func4, Try.ntmps4
    go_wp2_with fail
    refine (HAW.out W).mono ?_
    rintro e w1 ⟨rfl, hb1⟩
    have H1 := hide hb1
    clear hb1
    go_wp2_with fail
    refine (HAW.out w1).mono ?_
    rintro e w2 ⟨rfl, hb2⟩
    have H2 := hide (H1.out.trans (hb2.mono H1.out.size))
    clear hb2 H1
    go_wp2
    go_ret
    exact ⟨rfl, H2.out⟩
  · have HL : Hid (LogIn W (.slice aa ms.length ca) ms) := ⟨HRS.out, by omega, HC.out⟩
    have HNX := hide (fun w (h : Below W.heap.size W w) => Next15 _ ms n w (HL.out.below h))
    have HCL := hide (fun w (h : Below W.heap.size W w) => Clr15 _ ms n w (HL.out.below h))
    have HGO := hide (fun w (h : Below W.heap.size W w) => rgood15 _ ms w (HL.out.below h))
    have HLL := hide (fun w (h : Below W.heap.size W w) => HL.out.below h)
    obtain ⟨ln, hln⟩ : ∃ ln, ln = ms.length := ⟨_, rfl⟩
    rw [← hln] at hbig hb' HRS HC HL HNX HCL HGO HLL ⊢
    clear hln HRS HC
    have i1 : ¬ (ln : Int) > 300 := by omega
    go_enter Try.func4, Try.ntmps4
    go_wp2_with fail
    refine (HAW.out W).mono ?_
    rintro e w1 ⟨rfl, hb1⟩
    have H1 := hide hb1
    clear hb1 HAW
    go_wp2_with fail
    refine (HNX.out w1 H1.out).mono ?_
    rintro e w2 ⟨hcase, hb2⟩
    have H2 := hide (H1.out.trans (hb2.mono H1.out.size))
    clear hb2 H1 HNX
    rcases hcase with ⟨hr, rfl⟩ | ⟨hr, rfl⟩
    · -- a log
      have HR := hide hr
      rw [(riseB_iff _ _).2 hr] at HGO
      have HNX := hide (fun w (h : Below W.heap.size W w) => rnext15 _ ms hr n w (HLL.out w h))
      have HRC := hide (fun w (h : Below W.heap.size W w) => rclr15 _ ms n w (HLL.out w h) hr)
      have HIN := hide (fun w => clrA_in hr n w)
      have HSM := hide (fun w => rsame_at (clrA (msR ms) n).1.1 (clrA (msR ms) n).1.1 (clrA (msR ms) n).1.2.1 (clrA (msR ms) n).1.2.2 (clrA (msR ms) n).1.2.1 (clrA (msR ms) n).1.2.2 w true (hide ⟨fun _ => rfl, fun _ => rfl⟩) (HIN.out w).1 (HIN.out w).1 (HIN.out w).2 (HIN.out w).2)
      have hone := all15 (HIN.out W).2
      clear hr
      generalize nextT (msR ms) n = q at *
      generalize clrA (msR ms) n = A at *
      obtain ⟨⟨r, va, vb⟩, E⟩ := A
      simp only at HRC HIN HSM hone HCL
      obtain ⟨rc, hrc⟩ : ∃ rc, rc = rcF (r, va, vb) := ⟨_, rfl⟩
      have hsm : rcA r va vb = rc := hrc.symm
      rw [hsm] at HSM
      rw [← hrc] at HRC hone HCL
      have hz : rc.size = 14 := by rw [hrc]; rfl
      have hinf : (Try.prog.info? 30).map (·.size) = some rc.size := by rw [hz]; exact infoRc
      clear hrc hsm
      go_wp2_with fail
      refine (HCL.out w2 H2.out).mono ?_
      rintro e w3 ⟨hcase, hb3⟩
      have H3 := hide (H2.out.trans (hb3.mono H2.out.size))
      clear hb3 H2 HCL
      obtain rfl : e = .returned (.tuple #[.agg rc, .int .i64 E]) := by
        rcases hcase with ⟨_, h1⟩ | ⟨h1, _⟩
        · exact h1
        · exact absurd HR.out h1
      clear hcase
      have hb4 : Below w3.heap.size w3 (w3.alloc (.cells zeroA 30)) := (Below.refl _ _).alloc (Nat.le_refl _) _
      obtain ⟨g3, hg3⟩ : ∃ g, g = w3.heap.size := ⟨_, rfl⟩
      have HG3 := hide hg3
      have HZ : Hid (RowAt (w3.alloc (.cells zeroA 30)) g3 30 zeroA ∧ Below W.heap.size W (w3.alloc (.cells zeroA 30)) ∧ W.heap.size ≤ g3) := by
        rw [hg3]
        exact ⟨RowAt.new w3 _ _, H3.out.trans (hb4.mono H3.out.size), H3.out.size⟩
      clear hb4 hg3 H3
      go_wp2_with (refine wpList_store_at rfl 30 (.tmp 7) (.tmp 29) rfl g3 zeroA rc ?h1 rfl HZ.out.1 hinf hz.symm hone ?_; (case h1 => rw [HG3.out]; rfl); intro w4 hr4 hk4 hrow4; refine stop10 ?_)
      have hb4 := hk4 _ _ HZ.out.2.1 HZ.out.2.2
      have H4 : Hid (RowAt w4 g3 30 rc ∧ Below W.heap.size W w4 ∧ W.heap.size ≤ g3) := ⟨hr4, hb4, HZ.out.2.2⟩
      clear hr4 hk4 hrow4 hb4 HZ
      refine unstop10 ?_
      rw [← HG3.out]
      go_wp2_with fail
      refine (HGO.out w4 H4.out.2.1).mono ?_
      rintro e w5 ⟨rfl, hb5⟩
      have H5 : Hid (RowAt w5 g3 30 rc ∧ Below W.heap.size W w5) := ⟨H4.out.1.later hb5, H4.out.2.1.trans (hb5.mono H4.out.2.1.size)⟩
      clear hb5 H4 HGO
      go_wp2_with fail
      refine (HRC.out w5 H5.out.2).mono ?_
      rintro e w6 ⟨rfl, hb6⟩
      have H6 : Hid (RowAt w6 g3 30 rc ∧ Below W.heap.size W w6) := ⟨H5.out.1.later hb6, H5.out.2.trans (hb6.mono H5.out.2.size)⟩
      clear hb6 H5 HRC
      have hb7 : Below w6.heap.size w6 (w6.alloc (.cells zeroA 30)) := (Below.refl _ _).alloc (Nat.le_refl _) _
      obtain ⟨g6, hg6⟩ : ∃ g, g = w6.heap.size := ⟨_, rfl⟩
      have HG6 := hide hg6
      have HZ : Hid (RowAt (w6.alloc (.cells zeroA 30)) g6 30 zeroA ∧ RowAt (w6.alloc (.cells zeroA 30)) g3 30 rc ∧ Below W.heap.size W (w6.alloc (.cells zeroA 30)) ∧ W.heap.size ≤ g6 ∧ g3 ≠ g6) := by
        rw [hg6]
        exact ⟨RowAt.new w6 _ _, H6.out.1.later hb7, H6.out.2.trans (hb7.mono H6.out.2.size), H6.out.2.size, Nat.ne_of_lt H6.out.1.lt⟩
      clear hb7 hg6 H6
      go_wp2_with (refine wpList_store_at rfl 30 (.tmp 9) (.tmp 53) rfl g6 zeroA rc ?h1 rfl HZ.out.1 hinf hz.symm hone ?_; (case h1 => rw [HG6.out]; rfl); intro w7 hr7 hk7 hrow7; refine stop10 ?_)
      have hb7 := hk7 _ _ HZ.out.2.2.1 HZ.out.2.2.2.1
      have H7 : Hid (RowAt w7 g6 30 rc ∧ RowAt w7 g3 30 rc ∧ Below W.heap.size W w7) := ⟨hr7, hrow7 g3 _ _ HZ.out.2.2.2.2 HZ.out.2.1, hb7⟩
      clear hr7 hk7 hrow7 hb7 HZ
      refine unstop10 ?_
      rw [← HG6.out]
      go_wp2_with fail
      refine (HNX.out w7 H7.out.2.2).mono ?_
      rintro e w8 ⟨rfl, hb8⟩
      have H8 : Hid (RowAt w8 g6 30 rc ∧ RowAt w8 g3 30 rc ∧ Below W.heap.size W w8) := ⟨H7.out.1.later hb8, H7.out.2.1.later hb8, H7.out.2.2.trans (hb8.mono H7.out.2.2.size)⟩
      clear hb8 H7 HNX
      go_wp2_with (first | (refine wpList_load_at rfl 30 (.tmp 7) rfl g3 rfl rc H8.out.2.1 _ Try.underlying30 rfl hinf ?_) | (refine wpList_load_at rfl 30 (.tmp 9) rfl g6 rfl rc H8.out.1 _ Try.underlying30 rfl hinf ?_))
      refine (HSM.out w8).mono ?_
      rintro e w9 ⟨rfl, hb9⟩
      have H9 := hide (H8.out.2.2.trans (hb9.mono H8.out.2.2.size))
      clear hb9 H8 HSM
      go_wp2
      go_ret
      exact ⟨rfl, H9.out⟩
    · -- no log
      have HR := hide hr
      rw [riseB_no hr] at HGO
      clear hr
      have HSM := hide (fun w => rsame_at Rec.zero Rec.zero (.slice none 0 0) (.slice none 0 0) (.slice none 0 0) (.slice none 0 0) w true (hide ⟨fun _ => rfl, fun _ => rfl⟩) zero_fits15 zero_fits15 (zero_in15 w) (zero_in15 w))
      have hone : zeroA.all (·.oneCell') = true := by simp [zeroA, Value.oneCell']
      go_wp2_with fail
      refine (HCL.out w2 H2.out).mono ?_
      rintro e w3 ⟨hcase, hb3⟩
      have H3 := hide (H2.out.trans (hb3.mono H2.out.size))
      clear hb3 H2 HCL
      obtain rfl : e = .returned (.tuple #[.agg (rcF rcZ), .int .i64 2]) := by
        rcases hcase with ⟨h1, _⟩ | ⟨_, h1⟩
        · exact absurd h1 HR.out
        · exact h1
      clear hcase
      have hb4 : Below w3.heap.size w3 (w3.alloc (.cells zeroA 30)) := (Below.refl _ _).alloc (Nat.le_refl _) _
      obtain ⟨g3, hg3⟩ : ∃ g, g = w3.heap.size := ⟨_, rfl⟩
      have HG3 := hide hg3
      have HZ : Hid (RowAt (w3.alloc (.cells zeroA 30)) g3 30 zeroA ∧ Below W.heap.size W (w3.alloc (.cells zeroA 30)) ∧ W.heap.size ≤ g3) := by
        rw [hg3]
        exact ⟨RowAt.new w3 _ _, H3.out.trans (hb4.mono H3.out.size), H3.out.size⟩
      clear hb4 hg3 H3
      go_wp2_with (refine wpList_store_at rfl 30 (.tmp 7) (.tmp 29) rfl g3 zeroA zeroA ?h1 rfl HZ.out.1 infoRc rfl hone ?_; (case h1 => rw [HG3.out]; rfl); intro w4 hr4 hk4 hrow4; refine stop10 ?_)
      have hb4 := hk4 _ _ HZ.out.2.1 HZ.out.2.2
      have H4 : Hid (RowAt w4 g3 30 zeroA ∧ Below W.heap.size W w4) := ⟨hr4, hb4⟩
      clear hr4 hk4 hrow4 hb4 HZ
      refine unstop10 ?_
      rw [← HG3.out]
      go_wp2_with fail
      refine (HGO.out w4 H4.out.2).mono ?_
      rintro e w5 ⟨rfl, hb5⟩
      have H5 : Hid (RowAt w5 g3 30 zeroA ∧ Below W.heap.size W w5) := ⟨H4.out.1.later hb5, H4.out.2.trans (hb5.mono H4.out.2.size)⟩
      clear hb5 H4 HGO
      go_wp2_with (refine wpList_load_at rfl 30 (.tmp 7) rfl g3 rfl zeroA H5.out.1 _ Try.underlying30 rfl infoRc ?_)
      refine (HSM.out w5).mono ?_
      rintro e w9 ⟨rfl, hb9⟩
      have H9 := hide (H5.out.2.trans (hb9.mono H5.out.2.size))
      clear hb9 H5 HSM
      go_wp2
      go_ret
      exact ⟨rfl, H9.out⟩
end Go.Proofs.Ytbnlkfcaahgpmaa.txnNexts

namespace Go.Proofs.Ytbnlkfcaahgpmaa.txnNexts
open Go.ChangeShapes Go.WideShapes Go.ChangeAt Go.RowKit
open Go.ChangeMaps (open_string shut_string)
set_option linter.unusedVariables false

theorem laidOut : laidOutB Try.prog = true := by kernel_rfl
theorem own : ownKnob Try.prog.godebug = none := by kernel_rfl

set_option maxRecDepth 100000 in
theorem lifted (os : Os) (started : os.Started) (H : Type) (enc : TypeId × Value → H) :
    ReturnsInHanded {} Try.checked os 4 .any (Rows.txnNextsSpec.pre6 enc Try.prog Try.f4 Rows.txnNextsRow.domain false) (Rows.txnNextsSpec.post enc Try.prog Try.f4 false true false false) := by
  refine returnsInHanded_of_change_sized (C := Try.checked) own started (by kernel_rfl) Try.func4
    (ChangeSpec.witness6 (enc := enc) (C := Try.checked) false ⟨#[], #[.slice none 0 0, .int .u64 0], []⟩ 8 (by kernel_rfl) (by kernel_rfl) (by kernel_rfl) (by kernel_rfl)) ?_
  intro W base args ds gs before hval0 hW hcnd hsz0 _
  have hval : ∀ (j : Nat) t v, Try.f4.params[j]? = some t → args[j]? = some v → Value.okWide Try.prog W .any base t v := hval0
  have hsz : (DataW.weightsEach Try.prog (Try.f4.params.toList ++ Rows.txnNextsSpec.plain.varTypes Try.prog) (ds ++ gs)).all (· ≤ reachBytes) = true := hsz0
  have hW' := hW
  obtain ⟨p, q, hA0, hV, rfl, hfz, hnd⟩ := hW
  have hA : DataW.TrodAll enc Try.prog W 0 (fun _ => true) true Try.f4.params.toList args.toList ds p := hA0
  rw [Try.params4] at hA hval hsz
  obtain ⟨v0, vs0, d0, ds0, p0, q0, hargs, rfl, rfl, h0, r0⟩ := trodAll_cons hA
  obtain ⟨v1, vs1, d1, ds1, p1, q1, rfl, rfl, rfl, h1, r1⟩ := trodAll_cons r0
  obtain ⟨rfl, rfl, rfl⟩ := trodAll_nil r1
  obtain rfl : args = #[v0, v1] := by cases args; simp_all
  obtain ⟨rfl, rfl⟩ := trodVars_none hV
  have k0 := h0
  have lt0 := trod_places h0
  obtain ⟨a1, rfl, rfl, rfl, w1⟩ := open_int Try.underlying23 (hval 1 23 v1 rfl rfl) h1
  obtain ⟨m0, w0a, w0b, w0c⟩ := op_recs_arg (hval 0 22 v0 rfl rfl) h0
  clear hA0 hval0 hsz0 hsz
  refine (walk v0 m0 a1 W w0a w0b w0c w1).mono fun e W' ⟨he, bel⟩ => ?_
  subst he
  exact ⟨_, rfl, _, _, _, [], _, [], hW', trodAll_mk1 (shut_bool Try.underlying4 _), (trodAll_cons_mk (Below.trod laidOut (by kernel_rfl) (of_decide_eq_true (by kernel_rfl)) k0 bel lt0) (trodAll_cons_mk (shut_int Try.underlying23 w1) trodAll_mk0)), rfl, bel.frame _, fun h => by cases h⟩

theorem over : Rows.txnNextsRow.holds Try.pinned (OpenSpec.ofChange Rows.txnNextsSpec) :=
  OpenClaim.holds_of_wide 4 Try.f4 rfl rfl rfl rfl rfl rfl rfl ⟨rfl, rfl, rfl, rfl, rfl⟩ rfl rfl rfl rfl rfl (by kernel_rfl) Try.func4 (by kernel_rfl)
    (of_decide_eq_true (by kernel_rfl)) (by unfold Func.isWrapper; first | (rw [if_pos (by decide +kernel)]; kernel_rfl) | (rw [if_neg (by decide +kernel)]; exact ⟨rfl, rfl⟩))
    (fun os started H enc _ => lifted os started H enc)

/-- THE STATEMENT. -/
theorem proved : Rows.TxnNextsSaid := over
end Go.Proofs.Ytbnlkfcaahgpmaa.txnNexts
namespace Go.Proofs.Ytbnlkfcaahgpmaa
theorem txnNexts_proved : Rows.TxnNextsSaid := txnNexts.proved
end Go.Proofs.Ytbnlkfcaahgpmaa
